"""Moves: which lead from a drawing to another one, what they make of it and what they change."""

from selfcrossed.changed import corners, drawing_behind, edge_without, new_letters, pair_of, told_behind
from selfcrossed.drawings import (
    Drawing, check_drawing, plain_by, plain_of_drawing, plain_told, told_of, told_with,
)
from selfcrossed.errors import InvalidMove, InvalidMoves, InvalidNumber, TooMany
from selfcrossed.integers import is_from_to, is_integer
from selfcrossed.limits import MOST_LED, MOST_LETTERS, MOST_MOVES
from selfcrossed.numbers import same_way_of, three_ways_of, turns_in
from selfcrossed.rows import least_ways
from selfcrossed.walks import edge_of

MOST_SEARCHED = 3


def is_move(drawing, value):
    """Tell whether any value is a move for the drawing."""
    check_drawing(drawing)
    return is_move_of(drawing, value)


def done(drawing, move):
    """Give the drawing behind the move."""
    check_drawing(drawing)
    check_move(drawing, move)
    return drawing_behind(drawing, move)


def changes_of(drawing, move):
    """Give what the move adds to the number of letters, to the turns, to P, to M and to S."""
    check_drawing(drawing)
    check_move(drawing, move)
    before = five_numbers(drawing)
    after = five_numbers(drawing_behind(drawing, move))
    return tuple([new - old for old, new in zip(before, after)])


def outs(drawing):
    """Give all moves "no loop", "no pair" and "three" of the drawing, ascending."""
    check_drawing(drawing)
    return tuple(outs_of(drawing))


def ins(drawing):
    """Give all moves "loop" and "pair" of the drawing, ascending."""
    check_drawing(drawing)
    return tuple(ins_of(drawing))


def led(drawing, moves):
    """Give the drawing behind all these moves, one after the other."""
    check_drawing(drawing)
    return drawing_led(drawing, moves)


def back(drawing, move):
    """Give a move that leads back from the drawing behind the move."""
    check_drawing(drawing)
    check_move(drawing, move)
    after = drawing_behind(drawing, move)
    new = new_letters(drawing.row)
    if move[0] == "loop":
        return "no loop", new[0]
    if move[0] == "pair":
        return "no pair", new[0], new[1]
    return first_to(plain_told(told_of(drawing)), after, moves_back(drawing, move, after))


def loosened(drawing):
    """Give moves "no loop" and "no pair" behind which there are none any more."""
    check_drawing(drawing)
    return loosening_of(drawing)


def by_threes(drawing):
    """Give the plain drawings, by their texts, of all that come from the drawing by moves "three" alone."""
    check_drawing(drawing)
    found = [plain_of_drawing(drawing)]
    reached = {key_of(found[0]): True}
    known = {}
    index = 0
    while index < len(found):
        found.extend(new_behind(found[index], threes_of(found[index]), reached, known))
        index += 1
        if len(found) > MOST_LED:
            raise TooMany(MOST_LED)
    by_text = {each.text: each for each in found}
    return tuple([by_text[text] for text in sorted(by_text)])


def fewest_moves(one, other, number):
    """Give the least number of moves that lead from the one drawing to the other, None if none do."""
    check_search(one, other, number)
    return fewest_with(one, other, number, moves_within)


def without_loops(one, other, number):
    """Give the least number of moves without loops that lead from the one drawing to the other, None if none do."""
    check_search(one, other, number)
    # Without loops the turns stay, but for the sign.
    if abs(turns_in(one)) != abs(turns_in(other)):
        return None
    return fewest_with(one, other, number, moves_within_without_loops)


def least_moves_of(one, other):
    """Give the least numbers of pairs the same way, pairs the opposite way and threes that lead to the other."""
    check_drawing(one)
    check_drawing(other)
    return least_moves(one, other)


def least_moves(one, other):
    """Give what `least_moves_of` tells of what are known to be drawings."""
    if abs(turns_in(one)) != abs(turns_in(other)):
        return None
    apart = [abs(old - new) for old, new in zip(five_numbers(one), five_numbers(other))]
    return apart[2] // 2, apart[3] // 2, apart[4]


def check_move(drawing, move):
    """Raise the error for what is no move for the drawing."""
    if not is_move_of(drawing, move):
        raise InvalidMove(move)


def check_search(one, other, number):
    """Raise the error for what is no pair of drawings with a number of letters to be searched."""
    check_drawing(one)
    check_drawing(other)
    if not is_from_to(number, 1, MOST_SEARCHED):
        raise InvalidNumber(number)


def is_move_of(drawing, value):
    """Tell whether any value is a move for what is known to be a drawing."""
    if not isinstance(value, tuple) or not 2 <= len(value) <= 4:
        return False
    # What is in the tuple is asked first, as Python takes True for the number 1.
    if not all([isinstance(part, str) or is_integer(part) for part in value]):
        return False
    return value in (ins_of(drawing) if value[0] in ("loop", "pair") else outs_of(drawing))


def outs_of(drawing):
    """List all moves that lead to fewer letters, or as many, ascending."""
    return sorted(threes_of(drawing) + loose_of(drawing))


def inner_regions(drawing, number):
    """List the regions with so many edges, ascending, that are not the outside."""
    return [region for region in drawing.regions if len(region) == number and region != drawing.outside]


def threes_of(drawing):
    """List the moves "three" of the drawing, ascending."""
    inner = inner_regions(drawing, 3)
    return [("three", region[0]) for region in inner if len(set(corners(drawing.row, region))) == 3]


def loose_of(drawing):
    """List the moves "no loop" and "no pair" of the drawing, ascending."""
    row = drawing.row
    moves = []
    if drawing.size > 1:
        moves.extend([("no loop", corners(row, region)) for region in inner_regions(drawing, 1)])
    if drawing.size > 2:
        pairs = [pair_of(row, region) for region in inner_regions(drawing, 2)]
        moves.extend([("no pair", pair[0], pair[1]) for pair in pairs if pair is not None])
    return sorted(moves)


def ins_of(drawing):
    """List all moves that lead to more letters, ascending."""
    moves = []
    if drawing.size < MOST_LETTERS:
        moves.extend(loops_of(drawing))
    if drawing.size < MOST_LETTERS - 1:
        moves.extend(pairs_of(drawing))
    return sorted(moves)


def loops_of(drawing):
    """List the moves "loop" of the drawing."""
    return [("loop", edge, way) for edge in range(len(drawing.row)) for way in "lr"]


def pairs_of(drawing):
    """List the moves "pair" of the drawing."""
    moves = []
    for region in drawing.regions:
        parts = (0, 1) if region == drawing.outside else (0,)
        moves.extend([("pair", one, other, part) for one in region for other in region for part in parts])
    return moves


def moves_within(drawing, number):
    """List the moves of the drawing that lead to at most so many letters."""
    moves = moves_within_without_loops(drawing, number)
    moves.extend([move for move in loose_of(drawing) if move[0] == "no loop"])
    if drawing.size < number:
        moves.extend(loops_of(drawing))
    return moves


def moves_within_without_loops(drawing, number):
    """List the moves of the drawing that lead to at most so many letters, and neither make a loop nor pull one out."""
    moves = threes_of(drawing) + [move for move in loose_of(drawing) if move[0] == "no pair"]
    if drawing.size < number - 1:
        moves.extend(pairs_of(drawing))
    return moves


def drawing_led(drawing, moves):
    """Give the drawing behind all moves, or raise the error for the first that is none."""
    if not isinstance(moves, tuple):
        raise InvalidMoves(None)
    now = drawing
    for index, move in enumerate(moves):
        if index >= MOST_MOVES or not is_move_of(now, move):
            raise InvalidMoves(index)
        now = drawing_behind(now, move)
    return now


def plain_behind(drawing, move, known):
    """Give what the plain drawing of the drawing behind the move is made of.

    `known` keeps what was found for rows that were asked.
    """
    row, sides, element = told_behind(drawing, move)
    if row not in known:
        known[row] = least_ways(row)
    return plain_by(told_with(row, sides, element), known[row])


def moves_back(drawing, move, after):
    """List the moves, ascending, of the drawing behind a move of `outs` among which those are that lead back."""
    if move[0] == "three":
        return threes_of(after)
    gone = "".join(move[1:])
    edges = [edge_without(drawing.row, place, gone) for place, letter in enumerate(drawing.row) if letter in gone]
    if move[0] == "no loop":
        return [other for other in loops_of(after) if other[1] in edges]
    return sorted([other for other in pairs_of(after) if edge_of(other[1]) in edges and edge_of(other[2]) in edges])


def first_to(goal, drawing, moves):
    """Give the first of these moves that leads to a drawing of which the plain one is the goal, None if none does."""
    known = {}
    for move in moves:
        if plain_behind(drawing, move, known) == goal:
            return move
    return None


def loosening_of(drawing):
    """Give moves "no loop" and "no pair" behind which there are none any more, of what is known to be a drawing."""
    found = []
    now = drawing
    moves = loose_of(now)
    while moves:
        found.append(moves[0])
        now = drawing_behind(now, moves[0])
        moves = loose_of(now)
    return tuple(found)


def five_numbers(drawing):
    """List the number of letters, the turns, P, M and S."""
    same = same_way_of(drawing)
    return [drawing.size, turns_in(drawing), same, same - drawing.size, three_ways_of(drawing)]


def fewest_with(one, other, number, list_moves):
    """Give the least number of moves of those listed that lead from the one to the other, None if none do."""
    if one.size > number or other.size > number:
        return None
    goal = plain_told(told_of(other))
    level = [plain_of_drawing(one)]
    reached = {key_of(level[0]): True}
    known = {}
    steps = 0
    while level and goal not in reached:
        following = []
        for drawing in level:
            if goal not in reached:
                following.extend(new_behind(drawing, list_moves(drawing, number), reached, known))
        level = following
        steps += 1
    return steps if goal in reached else None


def key_of(plain):
    """Give what `plain_told` tells of what is a plain drawing."""
    return plain.row, plain.sides, plain.outside[0]


def new_behind(drawing, moves, reached, known):
    """List the plain drawings behind these moves of the drawing that are not reached yet, and put them in there."""
    found = []
    for move in moves:
        told = plain_behind(drawing, move, known)
        if told not in reached:
            reached[told] = True
            row, sides, element = told
            found.append(Drawing(row, sides, element))
    return found
