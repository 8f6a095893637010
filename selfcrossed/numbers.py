"""Numbers of a drawing: of its regions, its letters and its turns, and the three numbers P, M and S."""

from selfcrossed.drawings import Drawing, all_drawings_of, check_drawing
from selfcrossed.errors import InvalidAreas, InvalidNumber, NotFlat
from selfcrossed.flat import flat_sides_of, is_flat
from selfcrossed.integers import is_from_to
from selfcrossed.limits import MOST_AREA, MOST_SIDES
from selfcrossed.rows import ALPHABET, check_place, check_row, check_size, letters_of
from selfcrossed.walks import edge_of

MOST_ASKED = 100
MOST_STANDARD = 9


def region_numbers(drawing):
    """Give the number of each region, in their order."""
    check_drawing(drawing)
    return tuple(numbers_of_regions(drawing))


def letter_numbers(drawing):
    """Give the number of each letter, ascending."""
    check_drawing(drawing)
    return tuple(numbers_of_letters(drawing))


def signs(drawing, edge):
    """Give the sign of each letter, ascending, from this edge on."""
    check_drawing(drawing)
    check_place(drawing.row, edge)
    return tuple(signs_from(drawing, edge))


def twice_mean(drawing, edge):
    """Give twice the mean of the edge."""
    check_drawing(drawing)
    check_place(drawing.row, edge)
    return twice_mean_of(drawing, edge)


def turns(drawing):
    """Give the turns of the drawing."""
    check_drawing(drawing)
    return turns_of(drawing)


def same_way(drawing):
    """Give P, which changes where two stretches meet that go the same way."""
    check_drawing(drawing)
    return same_way_of(drawing)


def opposite_way(drawing):
    """Give M, which changes where two stretches meet that go opposite ways."""
    check_drawing(drawing)
    return same_way_of(drawing) - drawing.size


def three_ways(drawing):
    """Give S, which changes where three stretches meet at one place."""
    check_drawing(drawing)
    return three_ways_of(drawing)


def on_a_ball(drawing):
    """Give P and twice S together, which do not depend on the outside."""
    check_drawing(drawing)
    return same_way_of(drawing) + 2 * three_ways_of(drawing)


def area(drawing, sizes):
    """Give the sum of number times size of all regions but the outside."""
    check_drawing(drawing)
    check_sizes(drawing, sizes)
    # The outside's size does not count, as its number is 0.
    return sum([number * size for number, size in zip(numbers_of_regions(drawing), sizes)])


def rings(drawing):
    """Give the rings of edges into which the line falls when it turns off at each letter along the other passing."""
    check_drawing(drawing)
    return tuple(rings_of(drawing.row))


def most_turns(row):
    """Give the greatest number of turns that a drawing of the row has."""
    check_flat(row)
    return max(all_turns_of(row))


def least_same_way(row):
    """Give the least P that a drawing of the row has."""
    check_flat(row)
    return min([same_way_of(drawing) for drawing in all_drawings_of(row)])


def turns_spread(row):
    """Give the pairs of turns and how many flat sides with an outside have so many, ascending."""
    check_flat(row)
    found = all_turns_of(row)
    return tuple([(number, found.count(number)) for number in sorted(set(found))])


def outsides_with(drawing, number):
    """Give the regions, ascending, with which as the outside the drawing has so many turns."""
    check_drawing(drawing)
    if not is_from_to(number, -MOST_ASKED, MOST_ASKED):
        raise InvalidNumber(number)
    return tuple([region for region, told in zip(drawing.regions, turns_by_outside(drawing)) if told == number])


def standard(number):
    """Give the drawing of `aa`, `aabb` and so on with so many turns, as few letters as can be and the first text."""
    if not is_from_to(number, -MOST_STANDARD, MOST_STANDARD):
        raise InvalidNumber(number)
    row = "".join([letter + letter for letter in ALPHABET[:letters_for_turns(number)]])
    found = {}
    for drawing in one_drawing_of_sides(row):
        for region, told in zip(drawing.regions, turns_by_outside(drawing)):
            if told == number:
                turned = Drawing(row, drawing.sides, region[0])
                found[turned.text] = turned
    return found[min(found)]


def check_sizes(drawing, sizes):
    """Raise the error for what is no tuple of a size for each region."""
    if not isinstance(sizes, tuple) or len(sizes) != len(drawing.regions):
        raise InvalidAreas(None)
    for index, size in enumerate(sizes):
        if not is_from_to(size, 0, MOST_AREA):
            raise InvalidAreas(index)


def check_flat(row):
    """Raise the error for what is no flat row of at most eight letters."""
    check_row(row)
    if not is_flat(row):
        raise NotFlat()
    check_size(row, MOST_SIDES)


def lefts_of(drawing):
    """List for each edge the number of the region to its left."""
    row = drawing.row
    side_of = dict(zip(letters_of(row), drawing.sides))
    lefts = [0]
    for place in range(1, len(row)):
        is_later = row[place] in row[:place]
        # Whoever comes across the other passing from its right to its left has 1 more on both hands then.
        rises = is_later == (side_of[row[place]] == "+")
        lefts.append(lefts[-1] + (1 if rises else -1))
    outside = number_beside(lefts, drawing.outside[0])
    return [left - outside for left in lefts]


def number_beside(lefts, element):
    """Give the number of the region to the left of the element."""
    return lefts[element] if element >= 0 else lefts[edge_of(element)] - 1


def numbers_of_regions(drawing):
    """List the number of each region, in their order."""
    lefts = lefts_of(drawing)
    return [number_beside(lefts, region[0]) for region in drawing.regions]


def numbers_of_letters(drawing):
    """List the number of each letter, ascending."""
    lefts = lefts_of(drawing)
    row = drawing.row
    # Of the edges that lead to a place and from it the one has at its left the letter's number, the other 1 more.
    return [min(lefts[row.find(letter) - 1], lefts[row.find(letter)]) for letter in letters_of(row)]


def signs_from(drawing, edge):
    """List the sign of each letter, ascending, from this edge on."""
    row = drawing.row
    found = []
    for letter, side in zip(letters_of(row), drawing.sides):
        # Behind the edge one comes first to the later place of a letter that has just one place ahead of it.
        is_exchanged = row[:edge + 1].count(letter) == 1
        found.append(1 if is_exchanged == (side == "+") else -1)
    return found


def twice_mean_of(drawing, edge):
    """Give twice the mean of what is known to be an edge of the drawing."""
    return 2 * lefts_of(drawing)[edge] - 1


def turns_of(drawing):
    """Give the turns of what is known to be a drawing."""
    return twice_mean_of(drawing, 0) + sum(signs_from(drawing, 0))


def same_way_of(drawing):
    """Give P of what is known to be a drawing."""
    of_regions = sum([number * number for number in numbers_of_regions(drawing)])
    of_letters = sum([number * number for number in numbers_of_letters(drawing)])
    return 1 + drawing.size - of_regions + of_letters


def three_ways_of(drawing):
    """Give S of what is known to be a drawing."""
    doubled = twice_mean_of(drawing, 0)
    of_letters = sum([sign * number for sign, number in zip(signs_from(drawing, 0), numbers_of_letters(drawing))])
    # Twice the mean is odd, so that its square less 1 is a multiple of 4.
    return (doubled * doubled - 1) // 4 + of_letters


def rings_of(row):
    """List the rings of what is known to be a row, ascending, each one from its least edge on."""
    gone = [False] * len(row)
    found = []
    for first in range(len(row)):
        ring = []
        edge = first
        while not gone[edge]:
            gone[edge] = True
            ring.append(edge)
            edge = other_place(row, (edge + 1) % len(row))
        if ring:
            found.append(tuple(ring))
    return found


def other_place(row, place):
    """Give the other place of the letter at this place."""
    return row.find(row[place]) + row.rfind(row[place]) - place


def one_drawing_of_sides(row):
    """List one drawing for each flat sides of the row."""
    return [Drawing(row, sides, 0) for sides in flat_sides_of(row)]


def turns_by_outside(drawing):
    """List for each region the turns that the drawing has with it as the outside."""
    # With another outside all numbers have the new one's taken from them, and the signs stay.
    own = turns_of(drawing)
    return [own - 2 * number for number in numbers_of_regions(drawing)]


def all_turns_of(row):
    """List the turns of all flat sides with each outside."""
    return [told for drawing in one_drawing_of_sides(row) for told in turns_by_outside(drawing)]


def letters_for_turns(number):
    """Give the least number of letters, one at least, that a drawing with so many turns has."""
    if number in (0, 1, -1):
        return abs(number) + 1
    return abs(number) - 1
