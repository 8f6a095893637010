"""Moves: which lead from a drawing to another one, what they make of it and what they change."""

from selfcrossed.changed import corners, drawing_behind, edge_without, new_letters, pair_of
from selfcrossed.drawings import are_same_drawings, check_drawing, plain_of_drawing
from selfcrossed.errors import InvalidMove, InvalidMoves, InvalidNumber, TooMany
from selfcrossed.integers import is_from_to, is_integer
from selfcrossed.limits import MOST_LED, MOST_LETTERS, MOST_MOVES
from selfcrossed.numbers import same_way_of, three_ways_of, turns_of
from selfcrossed.walks import edge_of

MOST_SEARCHED = 3
ALL_WORDS = ("loop", "no loop", "no pair", "pair", "three")
WORDS_WITHOUT_LOOPS = ("no pair", "pair", "three")
MORE_LETTERS = {"loop": 1, "no loop": -1, "no pair": -2, "pair": 2, "three": 0}


def is_move(drawing, value):
    """Tell whether any value is a move for the drawing."""
    check_drawing(drawing)
    return is_move_of(drawing, value)


def done(drawing, move):
    """Give the drawing behind the move."""
    check_drawing(drawing)
    check_move(drawing, move)
    return drawing_behind(drawing, move)


def changes_of(drawing, move):
    """Give what the move adds to the number of letters, to the turns, to P, to M and to S."""
    check_drawing(drawing)
    check_move(drawing, move)
    before = five_numbers(drawing)
    after = five_numbers(drawing_behind(drawing, move))
    return tuple([new - old for old, new in zip(before, after)])


def outs(drawing):
    """Give all moves "no loop", "no pair" and "three" of the drawing, ascending."""
    check_drawing(drawing)
    return tuple(outs_of(drawing))


def ins(drawing):
    """Give all moves "loop" and "pair" of the drawing, ascending."""
    check_drawing(drawing)
    return tuple(ins_of(drawing))


def led(drawing, moves):
    """Give the drawing behind all these moves, one after the other."""
    check_drawing(drawing)
    return drawing_led(drawing, moves)


def back(drawing, move):
    """Give a move that leads back from the drawing behind the move."""
    check_drawing(drawing)
    check_move(drawing, move)
    after = drawing_behind(drawing, move)
    new = new_letters(drawing.row)
    if move[0] == "loop":
        return "no loop", new[0]
    if move[0] == "pair":
        return "no pair", new[0], new[1]
    found = [other for other in moves_back(drawing, move, after) if leads_to(after, other, drawing)]
    return found[0]


def loosened(drawing):
    """Give moves "no loop" and "no pair" behind which there are none any more."""
    check_drawing(drawing)
    return loosening_of(drawing)


def by_threes(drawing):
    """Give the plain drawings, by their texts, of all that come from the drawing by moves "three" alone."""
    check_drawing(drawing)
    start = plain_of_drawing(drawing)
    reached = {start.text: start}
    level = [start]
    while level:
        level = next_level(level, reached, ("three",), MOST_LETTERS)
        if len(reached) > MOST_LED:
            raise TooMany(MOST_LED)
    return tuple([reached[text] for text in sorted(reached)])


def fewest_moves(one, other, number):
    """Give the least number of moves that lead from the one drawing to the other, None if none do."""
    check_search(one, other, number)
    return fewest_with(one, other, number, ALL_WORDS)


def without_loops(one, other, number):
    """Give the least number of moves without loops that lead from the one drawing to the other, None if none do."""
    check_search(one, other, number)
    return fewest_with(one, other, number, WORDS_WITHOUT_LOOPS)


def least_moves_of(one, other):
    """Give the least numbers of pairs the same way, pairs the opposite way and threes that lead to the other."""
    check_drawing(one)
    check_drawing(other)
    return least_moves(one, other)


def least_moves(one, other):
    """Give what `least_moves_of` tells of what are known to be drawings."""
    if abs(turns_of(one)) != abs(turns_of(other)):
        return None
    apart = [abs(old - new) for old, new in zip(five_numbers(one), five_numbers(other))]
    return apart[2] // 2, apart[3] // 2, apart[4]


def check_move(drawing, move):
    """Raise the error for what is no move for the drawing."""
    if not is_move_of(drawing, move):
        raise InvalidMove(move)


def check_search(one, other, number):
    """Raise the error for what is no pair of drawings with a number of letters to be searched."""
    check_drawing(one)
    check_drawing(other)
    if not is_from_to(number, 1, MOST_SEARCHED):
        raise InvalidNumber(number)


def is_move_of(drawing, value):
    """Tell whether any value is a move for what is known to be a drawing."""
    if not isinstance(value, tuple) or not 2 <= len(value) <= 4:
        return False
    # What is in the tuple is asked first, as Python takes True for the number 1.
    if not all([isinstance(part, str) or is_integer(part) for part in value]):
        return False
    return value in (ins_of(drawing) if value[0] in ("loop", "pair") else outs_of(drawing))


def outs_of(drawing):
    """List all moves that lead to fewer letters, or as many, ascending."""
    row = drawing.row
    inner = [region for region in drawing.regions if region != drawing.outside]
    moves = [("three", region[0]) for region in inner if is_three(corners(row, region))]
    if drawing.size > 1:
        loops = [region for region in inner if len(region) == 1]
        moves.extend([("no loop", corners(row, region)) for region in loops])
    if drawing.size > 2:
        pairs = [pair_of(row, region) for region in inner]
        moves.extend([("no pair", pair[0], pair[1]) for pair in pairs if pair is not None])
    return sorted(moves)


def is_three(letters):
    """Tell whether these are the corners of a region with three edges and three unlike letters."""
    return len(letters) == 3 and len(set(letters)) == 3


def ins_of(drawing):
    """List all moves that lead to more letters, ascending."""
    moves = []
    if drawing.size < MOST_LETTERS:
        moves.extend([("loop", edge, way) for edge in range(len(drawing.row)) for way in "lr"])
    if drawing.size < MOST_LETTERS - 1:
        for region in drawing.regions:
            parts = (0, 1) if region == drawing.outside else (0,)
            moves.extend([("pair", one, other, part) for one in region for other in region for part in parts])
    return sorted(moves)


def drawing_led(drawing, moves):
    """Give the drawing behind all moves, or raise the error for the first that is none."""
    if not isinstance(moves, tuple):
        raise InvalidMoves(None)
    now = drawing
    for index, move in enumerate(moves):
        if index >= MOST_MOVES or not is_move_of(now, move):
            raise InvalidMoves(index)
        now = drawing_behind(now, move)
    return now


def leads_to(drawing, move, other):
    """Tell whether the move leads to a drawing that is the same as the other one."""
    return are_same_drawings(drawing_behind(drawing, move), other)


def moves_back(drawing, move, after):
    """List the moves of the drawing behind a move of `outs` among which those are that lead back."""
    if move[0] == "three":
        return [other for other in outs_of(after) if other[0] == "three"]
    gone = "".join(move[1:])
    edges = [edge_without(drawing.row, place, gone) for place, letter in enumerate(drawing.row) if letter in gone]
    if move[0] == "no loop":
        return [other for other in ins_of(after) if other[0] == "loop" and other[1] in edges]
    pairs = [other for other in ins_of(after) if other[0] == "pair"]
    return [other for other in pairs if edge_of(other[1]) in edges and edge_of(other[2]) in edges]


def loosening_of(drawing):
    """Give moves "no loop" and "no pair" behind which there are none any more, of what is known to be a drawing."""
    found = []
    now = drawing
    moves = loose_of(now)
    while moves:
        found.append(moves[0])
        now = drawing_behind(now, moves[0])
        moves = loose_of(now)
    return tuple(found)


def loose_of(drawing):
    """List the moves "no loop" and "no pair" of the drawing."""
    return [move for move in outs_of(drawing) if move[0] != "three"]


def five_numbers(drawing):
    """List the number of letters, the turns, P, M and S."""
    same = same_way_of(drawing)
    return [drawing.size, turns_of(drawing), same, same - drawing.size, three_ways_of(drawing)]


def fewest_with(one, other, number, words):
    """Give the least number of moves with these words that lead from the one to the other, None if none do."""
    if one.size > number or other.size > number:
        return None
    start = plain_of_drawing(one)
    goal = plain_of_drawing(other).text
    reached = {start.text: start}
    level = [start]
    steps = 0
    while level and goal not in reached:
        level = next_level(level, reached, words, number)
        steps += 1
    return steps if goal in reached else None


def next_level(level, reached, words, number):
    """List the plain drawings one move behind those of a level that are not reached yet, and put them in there."""
    found = []
    for drawing in level:
        for move in outs_of(drawing) + ins_of(drawing):
            if move[0] in words and drawing.size + MORE_LETTERS[move[0]] <= number:
                plain = plain_of_drawing(drawing_behind(drawing, move))
                if plain.text not in reached:
                    reached[plain.text] = plain
                    found.append(plain)
    return found
