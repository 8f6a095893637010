"""What the checker finds out about moves by itself.

A drawing is a triple here: its row, a dict of the sides of its letters, and any element of its outside. It is never
changed itself. A move is looked at where it is made, and the regions are gone round only where it needs that.
"""

from selfcrossed.checked_rows import LETTERS, is_number, letters_in

OTHER_SIDE = {"+": "-", "-": "+"}
# One sign for each distance and side of a letter.
KINDS = "abcdefghijklmnopqrstuvwxyzABCDEFGHIJKLMNOPQRSTUVWXYZ"


def drawing_on(sheet):
    """Give the drawing that is told by its row, its sides, its regions and its outside."""
    row, sides, _, outside = sheet
    return row, dict(zip(letters_in(row), sides)), outside[0]


def moved(drawing, move):
    """Give the drawing behind the move, None if any value is no move for the drawing."""
    if not isinstance(move, tuple) or not 2 <= len(move) <= 4 or not isinstance(move[0], str):
        return None
    if move[0] not in MOVES or len(move) != SIZES[move[0]]:
        return None
    lead = MOVES[move[0]]
    return lead(drawing, move)


def edge_along(element):
    """Give the edge of the element."""
    return element if element >= 0 else -1 - element


def on_edge(edge, element):
    """Give the element that goes along the edge as the other element along its own."""
    return edge if element >= 0 else -1 - edge


def next_around(drawing, element):
    """Give the element that is gone along behind this one if the region to the left is kept."""
    row, side_of, _ = drawing
    place = (element + 1) % len(row) if element >= 0 else -1 - element
    letter = row[place]
    first = row.find(letter)
    other = row.rfind(letter) if first == place else first
    # One turns left onto the other passing, forwards if that goes to the left of who comes.
    goes_left = (side_of[letter] == "+") == (first == place)
    return other if goes_left == (element >= 0) else -1 - (other - 1) % len(row)


def region_around(drawing, element):
    """List the elements of the region with this element, from it on."""
    found = [element]
    following = next_around(drawing, element)
    while following != element:
        found.append(following)
        following = next_around(drawing, following)
    return found


def kept_outside(drawing, edges):
    """Give an element of the outside on none of these edges."""
    element = drawing[2]
    while edge_along(element) in edges:
        element = next_around(drawing, element)
    return element


def moved_by_loop(drawing, move):
    """Give the drawing with a small loop more."""
    row, side_of, element = drawing
    _, edge, way = move
    new = unused_letters(row)
    if not new or not is_number(edge, 0, len(row) - 1) or not isinstance(way, str) or way not in ("l", "r"):
        return None
    more = {edge: new[0] + new[0]}
    new_row = row[:edge + 1] + more[edge] + row[edge + 1:]
    return new_row, {**side_of, new[0]: "-" if way == "l" else "+"}, piece_of(element, more, 0)


def moved_by_pair(drawing, move):
    """Give the drawing with one stretch pushed over another one."""
    row, side_of, element = drawing
    _, one, other, part = move
    new = unused_letters(row)
    size = len(row)
    if len(new) < 2 or not is_number(one, -size, size - 1) or not is_number(other, -size, size - 1):
        return None
    crossed = region_around(drawing, one)
    is_outside = element in crossed
    if other not in crossed or not is_number(part, 0, 1 if is_outside else 0):
        return None
    more = letters_put(one, other, new[0], new[1])
    if not is_outside:
        piece = piece_of(element, more, 0)
    elif part == 0:
        piece = piece_behind(one, more, 2)
    else:
        piece = piece_behind(other, more, len(more[edge_along(other)]))
    side = first_side(one, other)
    return put_behind(row, more), {**side_of, new[0]: side, new[1]: OTHER_SIDE[side]}, piece


def letters_put(one, other, p, q):
    """Give what is put behind the places of both edges when one stretch is pushed over the other one."""
    if one == other:
        return {edge_along(one): p + q + q + p}
    along_one = p + q if one >= 0 else q + p
    along_other = q + p if other >= 0 else p + q
    return {edge_along(one): along_one, edge_along(other): along_other}


def first_side(one, other):
    """Give the side of the first new letter of a pair."""
    turned = (1 if one < 0 else 0) + (1 if other < 0 else 0)
    # If one stretch is both, its first part along the region is the later one for who goes backwards.
    if edge_along(other) < edge_along(one) or (one == other and one < 0):
        turned += 1
    return "-" if turned & 1 == 1 else "+"


def moved_by_no_loop(drawing, move):
    """Give the drawing without a loop."""
    row, _, element = drawing
    letter = move[1]
    if not is_letter(row, letter) or len(row) == 2:
        return None
    first, last = row.find(letter), row.rfind(letter)
    if last - first not in (1, len(row) - 1):
        return None
    edge = first if last == first + 1 else last
    loop = edge if next_around(drawing, edge) == edge else -1 - edge
    return None if element == loop else drawing_without(drawing, letter, (edge,))


def moved_by_no_pair(drawing, move):
    """Give the drawing without two letters between which a region of two edges is pulled away."""
    row, _, element = drawing
    one, other = move[1], move[2]
    if not is_letter(row, one) or not is_letter(row, other) or not one < other or len(row) <= 4:
        return None
    edges = edges_between(row, one, other)
    for first in [-1 - edge for edge in edges] + edges:
        second = next_around(drawing, first)
        if next_around(drawing, second) == first and element not in (first, second):
            return drawing_without(drawing, one + other, (edge_along(first), edge_along(second)))
    return None


def moved_by_three(drawing, move):
    """Give the drawing with a stretch pushed over the letter of two others."""
    row, _, element = drawing
    one = move[1]
    if not is_number(one, -len(row), len(row) - 1):
        return None
    two = next_around(drawing, one)
    three = next_around(drawing, two)
    if next_around(drawing, three) != one or one > min(two, three) or element in (one, two, three):
        return None
    edges = [edge_along(one), edge_along(two), edge_along(three)]
    corners = {letter: True for edge in edges for letter in (row[edge], row[(edge + 1) % len(row)])}
    return drawing_exchanged(drawing, edges) if len(corners) == 3 else None


def drawing_exchanged(drawing, edges):
    """Give the drawing with the letters exchanged at both ends of these edges."""
    row, side_of, _ = drawing
    # Each passing keeps its letter, so that it is seen which one comes first then.
    passings = list(range(len(row)))
    for edge in edges:
        end = (edge + 1) % len(row)
        passings[edge], passings[end] = end, edge
    new_row = "".join([row[passing] for passing in passings])
    new_sides = {}
    for letter in side_of:
        is_turned = passings[new_row.find(letter)] > passings[new_row.rfind(letter)]
        new_sides[letter] = OTHER_SIDE[side_of[letter]] if is_turned else side_of[letter]
    return new_row, new_sides, kept_outside(drawing, edges)


def drawing_without(drawing, gone, edges):
    """Give the drawing without these letters, between which these edges are pulled away."""
    row, side_of, _ = drawing
    kept = kept_outside(drawing, edges)
    new_row, ahead = row, row[:edge_along(kept) + 1]
    for letter in gone:
        new_row, ahead = new_row.replace(letter, ""), ahead.replace(letter, "")
    # Several edges become one, which leads from the last place that is left up to them, read round.
    new_edge = (len(ahead) - 1) % len(new_row)
    return new_row, {letter: side_of[letter] for letter in new_row}, on_edge(new_edge, kept)


def is_letter(row, value):
    """Tell whether any value is a letter of the row."""
    return isinstance(value, str) and len(value) == 1 and value in row


def edges_between(row, one, other):
    """List the edges, ascending, that lead from the one letter to the other or back."""
    following = row[1:] + row[0]
    return [edge for edge, ends in enumerate(zip(row, following)) if ends in ((one, other), (other, one))]


def unused_letters(row):
    """List the letters that the row does not have, ascending."""
    return [letter for letter in LETTERS if letter not in row]


def put_behind(row, more):
    """Give the row with further letters behind some of its places."""
    return "".join([letter + more.get(place, "") for place, letter in enumerate(row)])


def piece_of(element, more, number):
    """Give the element for the piece with this number, forwards, of an edge that letters behind places cut."""
    edge = edge_along(element)
    new_edge = edge + number
    for place in more:
        if place < edge:
            new_edge += len(more[place])
    return on_edge(new_edge, element)


def piece_behind(element, more, number):
    """Give the element for the piece that begins behind so many new letters, going as the element tells."""
    pieces = len(more[edge_along(element)])
    return piece_of(element, more, number if element >= 0 else pieces - number)


def are_one_drawing(one, other):
    """Tell whether both drawings are the same, all ways to begin and to walk being tried."""
    size = len(one[0])
    if len(other[0]) != size:
        return False
    outside = region_around(one, one[2])
    goal = kinds_along(other, 1)
    for way in (1, -1):
        kinds = kinds_along(one, way)
        twice = kinds + kinds
        place = twice.find(goal)
        while 0 <= place < size:
            edge = (edge_along(other[2]) + place) % size
            element = on_edge(edge, other[2])
            if way == -1:
                # Walked back, an edge is told from behind, and what was gone forwards is gone backwards.
                element = on_edge((size - 2 - edge) % size, -1 - element)
            if element in outside:
                return True
            place = twice.find(goal, place + 1)
    return False


def kinds_along(drawing, way):
    """Tell by a sign for each place the drawing walked forwards (1) or backwards (-1), but for letters and outside.

    A sign tells how far ahead the other place of the letter is, and to which hand the other passing goes. So a drawing
    begun at another place has the same signs, begun there.
    """
    row, side_of, _ = drawing
    size = len(row)
    found = [""] * size
    for letter in side_of:
        earlier, later = row.find(letter), row.rfind(letter)
        ahead = later - earlier if way == 1 else size - later + earlier
        is_left = side_of[letter] == "+"
        found[earlier] = KINDS[2 * ahead + (1 if is_left else 0)]
        found[later] = KINDS[2 * (size - ahead) + (0 if is_left else 1)]
    # Walked back, both passings are turned round, so that the one goes to the same hand of the other as before.
    return "".join(found[::way])


MOVES = {
    "loop": moved_by_loop, "pair": moved_by_pair, "no loop": moved_by_no_loop, "no pair": moved_by_no_pair,
    "three": moved_by_three,
}
SIZES = {"loop": 3, "pair": 4, "no loop": 2, "no pair": 3, "three": 2}
