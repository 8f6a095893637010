"""What the checker finds out about drawings and moves by itself.

A drawing is a triple here: its row, its sides and its outside, a region as `regions_of` lists it.
"""

from selfcrossed.checked_rows import (
    LETTERS, are_integers, are_sides, by_first_places, half_edges, is_number, is_row, letters_in, regions_of,
)

OTHER_SIDE = {"+": "-", "-": "+"}


def drawing_in(value):
    """Give the drawing of which any value is the text, None if it is the text of none."""
    words = value.split(" ") if isinstance(value, str) else []
    if len(words) != 3 or not is_row(words[0]) or not are_sides(words[0], words[1]):
        return None
    found = regions_of((words[0],), words[1])
    if len(found) != len(words[1]) + 2:
        return None
    fitting = [region for region in found if str(region[0]) == words[2]]
    return (words[0], words[1], fitting[0]) if fitting else None


def regions_in(drawing):
    """List the regions of the drawing."""
    return regions_of((drawing[0],), drawing[1])


def sides_by_letter(drawing):
    """Give for each letter its side."""
    return dict(zip(letters_in(drawing[0]), drawing[1]))


def drawing_with(row, side_of, element):
    """Give the drawing of the row with these sides of its letters and the outside that has the element."""
    sides = "".join([side_of[letter] for letter in letters_in(row)])
    outside = [region for region in regions_of((row,), sides) if element in region][0]
    return row, sides, outside


def edge_of(element):
    """Give the edge of the element."""
    return element if element >= 0 else -1 - element


def on_edge(edge, element):
    """Give the element that goes along the edge as the other element along its own."""
    return edge if element >= 0 else -1 - edge


def are_same(one, other):
    """Tell whether both drawings are the same, all ways to begin and to walk being tried."""
    goal = told_by_firsts(other)
    ways = [begun_at(one, place) for place in range(len(one[0]))]
    return any([told_by_firsts(way) == goal or told_by_firsts(walked_back(way)) == goal for way in ways])


def told_by_firsts(drawing):
    """Tell the drawing without its letters: by the places at which they stand first."""
    row, _, outside = drawing
    side_of = sides_by_letter(drawing)
    firsts = [letter for place, letter in enumerate(row) if letter not in row[:place]]
    return by_first_places(row), [side_of[letter] for letter in firsts], min(outside)


def begun_at(drawing, place):
    """Give the drawing begun at the place, the outside in any order."""
    row, _, outside = drawing
    size = len(row)
    side_of = sides_by_letter(drawing)
    for letter in side_of:
        if row[:place].count(letter) == 1:
            side_of[letter] = OTHER_SIDE[side_of[letter]]
    new_outside = [on_edge((edge_of(element) - place) % size, element) for element in outside]
    return row[place:] + row[:place], "".join([side_of[letter] for letter in letters_in(row)]), new_outside


def walked_back(drawing):
    """Give the drawing walked backwards, the outside in any order."""
    row, sides, outside = drawing
    last = len(row) - 1
    turned = [last if edge_of(element) == last else last - 1 - edge_of(element) for element in outside]
    new_outside = [on_edge(edge, -1 - element) for edge, element in zip(turned, outside)]
    return row[::-1], "".join([OTHER_SIDE[side] for side in sides]), new_outside


def moved(drawing, move):
    """Give the drawing behind the move, None if any value is no move for the drawing."""
    if not isinstance(move, tuple) or not 2 <= len(move) <= 4 or not isinstance(move[0], str):
        return None
    if move[0] not in MOVES or len(move) != SIZES[move[0]]:
        return None
    lead = MOVES[move[0]]
    return lead(drawing, move)


def moved_by_loop(drawing, move):
    """Give the drawing with a small loop more."""
    row, _, outside = drawing
    _, edge, way = move
    new = unused_letters(row)
    if not new or not is_number(edge, 0, len(row) - 1) or not isinstance(way, str) or way not in ("l", "r"):
        return None
    side_of = sides_by_letter(drawing)
    side_of[new[0]] = "-" if way == "l" else "+"
    more = {edge: new[0] + new[0]}
    return drawing_with(put_behind(row, more), side_of, piece_of(outside[0], more, 0))


def moved_by_pair(drawing, move):
    """Give the drawing with one stretch pushed over another one."""
    row, _, outside = drawing
    _, one, other, part = move
    new = unused_letters(row)
    size = len(row)
    if len(new) < 2 or not all([is_number(element, -size, size - 1) for element in (one, other)]):
        return None
    crossed = [region for region in regions_in(drawing) if one in region][0]
    if other not in crossed or not is_number(part, 0, 1 if crossed == outside else 0):
        return None
    more = letters_put(one, other, new[0], new[1])
    side_of = sides_by_letter(drawing)
    side_of[new[0]] = first_side(one, other)
    side_of[new[1]] = OTHER_SIDE[side_of[new[0]]]
    element = piece_of(outside[0], more, 0)
    if crossed == outside:
        element = piece_behind(one, more, 2) if part == 0 else piece_behind(other, more, len(more[edge_of(other)]))
    return drawing_with(put_behind(row, more), side_of, element)


def letters_put(one, other, p, q):
    """Give what is put behind the places of both edges when one stretch is pushed over the other one."""
    if one == other:
        return {edge_of(one): p + q + q + p}
    along_one = p + q if one >= 0 else q + p
    along_other = q + p if other >= 0 else p + q
    return {edge_of(one): along_one, edge_of(other): along_other}


def first_side(one, other):
    """Give the side of the first new letter of a pair."""
    turned = (1 if one < 0 else 0) + (1 if other < 0 else 0)
    # If one stretch is both, its first part along the region is the later one for who goes backwards.
    if edge_of(other) < edge_of(one) or (one == other and one < 0):
        turned += 1
    return "-" if turned & 1 == 1 else "+"


def moved_by_no_loop(drawing, move):
    """Give the drawing without a loop."""
    row, _, outside = drawing
    letter = move[1]
    if not is_letter(row, letter) or len(row) == 2:
        return None
    for region in regions_in(drawing):
        edge = edge_of(region[0])
        if len(region) == 1 and region != outside and row[edge] == letter:
            return drawing_without(drawing, letter, [edge])
    return None


def moved_by_no_pair(drawing, move):
    """Give the drawing without two letters between which a region of two edges is pulled away."""
    row, _, outside = drawing
    one, other = move[1], move[2]
    if not is_letter(row, one) or not is_letter(row, other) or not one < other or len(row) <= 4:
        return None
    for region in regions_in(drawing):
        edges = [edge_of(element) for element in region]
        if len(edges) == 2 and region != outside and all([ends_of(row, edge) == [one, other] for edge in edges]):
            return drawing_without(drawing, one + other, edges)
    return None


def moved_by_three(drawing, move):
    """Give the drawing with a stretch pushed over the letter of two others."""
    row, _, outside = drawing
    if not is_number(move[1], -len(row), len(row) - 1):
        return None
    region = [region for region in regions_in(drawing) if move[1] in region][0]
    edges = [edge_of(element) for element in region]
    corners = {letter: True for edge in edges for letter in ends_of(row, edge)}
    if region[0] != move[1] or len(edges) != 3 or len(corners) != 3 or region == outside:
        return None
    return drawing_exchanged(drawing, edges)


def drawing_exchanged(drawing, edges):
    """Give the drawing with the letters exchanged at both ends of these edges."""
    row, _, outside = drawing
    signs = list(row)
    # Each passing keeps its letter, so that it is seen which one comes first then.
    passings = list(range(len(row)))
    for edge in edges:
        end = (edge + 1) % len(row)
        signs[edge], signs[end] = row[end], row[edge]
        passings[edge], passings[end] = end, edge
    side_of = sides_by_letter(drawing)
    for letter in side_of:
        order = [passing for passing, sign in zip(passings, signs) if sign == letter]
        if order[0] > order[1]:
            side_of[letter] = OTHER_SIDE[side_of[letter]]
    kept = [element for element in outside if edge_of(element) not in edges]
    return drawing_with("".join(signs), side_of, kept[0])


def drawing_without(drawing, gone, edges):
    """Give the drawing without these letters, between which these edges are pulled away."""
    row, _, outside = drawing
    left = [place for place, letter in enumerate(row) if letter not in gone]
    kept = [element for element in outside if edge_of(element) not in edges][0]
    # Several edges become one, which leads from the last place that is left up to them, read round.
    ahead = [place for place in left if place <= edge_of(kept)]
    new_edge = len(ahead) - 1 if ahead else len(left) - 1
    new_row = "".join([row[place] for place in left])
    return drawing_with(new_row, sides_by_letter(drawing), on_edge(new_edge, kept))


def is_letter(row, value):
    """Tell whether any value is a letter of the row."""
    return isinstance(value, str) and len(value) == 1 and value in row


def ends_of(row, edge):
    """List the letters at both ends of the edge, ascending."""
    return sorted([row[edge], row[(edge + 1) % len(row)]])


def unused_letters(row):
    """List the letters that the row does not have, ascending."""
    return [letter for letter in LETTERS if letter not in row]


def put_behind(row, more):
    """Give the row with further letters behind some of its places."""
    return "".join([letter + more.get(place, "") for place, letter in enumerate(row)])


def piece_of(element, more, number):
    """Give the element for the piece with this number, forwards, of an edge that letters behind places cut."""
    ahead = [len(more[place]) for place in more if place < edge_of(element)]
    return on_edge(edge_of(element) + sum(ahead) + number, element)


def piece_behind(element, more, number):
    """Give the element for the piece that begins behind so many new letters, going as the element tells."""
    pieces = len(more[edge_of(element)])
    return piece_of(element, more, number if element >= 0 else pieces - number)


def numbers_of(drawing):
    """Give the numbers of the regions of the drawing, found by going from region to region."""
    regions = regions_in(drawing)
    index_at = {element: index for index, region in enumerate(regions) for element in region}
    reached = [index_at[drawing[2][0]]]
    found = {reached[0]: 0}
    asked = 0
    while asked < len(reached):
        here = reached[asked]
        asked += 1
        for element in regions[here]:
            beside = index_at[-1 - element]
            if beside not in found:
                # To the left of an edge there is 1 more than to its right.
                found[beside] = found[here] - 1 if element >= 0 else found[here] + 1
                reached.append(beside)
    return tuple([found[index] for index in range(len(regions))])


def are_numbers(drawing, value):
    """Tell whether any value is the tuple of the numbers of the regions of the drawing."""
    return are_integers(value) and value == numbers_of(drawing)


def numbers_at(drawing):
    """Give for each element the number of the region to its left."""
    return {element: number for region, number in zip(regions_in(drawing), numbers_of(drawing)) for element in region}


def signs_of(drawing):
    """List the signs of the letters, ascending, from the last edge on: their places are passed in order then."""
    return [-1 if side == "+" else 1 for side in drawing[1]]


def letter_numbers_of(drawing):
    """List the numbers of the letters, ascending."""
    left_of = numbers_at(drawing)
    found = []
    for letter in letters_in(drawing[0]):
        out, _, back, _ = half_edges((drawing[0],), letter)
        # Of the four corners two have the letter's number, the others 1 more and 1 less.
        found.append(sum([left_of[element] for element in (out, -1 - out, back, -1 - back)]) // 4)
    return found


def twice_mean_of(drawing):
    """Give twice the mean of the last edge."""
    left_of = numbers_at(drawing)
    return left_of[len(drawing[0]) - 1] + left_of[-len(drawing[0])]


def turns_of(drawing):
    """Give the turns of the drawing."""
    return twice_mean_of(drawing) + sum(signs_of(drawing))


def same_way_of(drawing):
    """Give P of the drawing."""
    of_regions = sum([number * number for number in numbers_of(drawing)])
    of_letters = sum([number * number for number in letter_numbers_of(drawing)])
    return 1 + len(drawing[1]) - of_regions + of_letters


def opposite_way_of(drawing):
    """Give M of the drawing."""
    return same_way_of(drawing) - len(drawing[1])


def three_ways_of(drawing):
    """Give S of the drawing."""
    doubled = twice_mean_of(drawing)
    of_letters = sum([sign * number for sign, number in zip(signs_of(drawing), letter_numbers_of(drawing))])
    return (doubled * doubled - 1) // 4 + of_letters


MOVES = {
    "loop": moved_by_loop, "pair": moved_by_pair, "no loop": moved_by_no_loop, "no pair": moved_by_no_pair,
    "three": moved_by_three,
}
SIZES = {"loop": 3, "pair": 4, "no loop": 2, "no pair": 3, "three": 2}
