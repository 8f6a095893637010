"""Numbers of a drawing: of its regions, its letters and its turns, and the three numbers P, M and S."""

from selfcrossed.drawings import Drawing, check_drawing
from selfcrossed.errors import InvalidAreas, InvalidNumber, NotFlat
from selfcrossed.flat import flat_choice, flat_sides_of
from selfcrossed.integers import is_from_to
from selfcrossed.limits import MOST_AREA, MOST_SIDES
from selfcrossed.measures import lefts_from, number_beside, numbers_at_letters, same_way_from, signs_from
from selfcrossed.nests import least_same_way_of, turns_counted
from selfcrossed.rows import ALPHABET, check_place, check_row, check_size

MOST_ASKED = 100
MOST_STANDARD = 9


def region_numbers(drawing):
    """Give the number of each region, in their order."""
    check_drawing(drawing)
    return tuple(numbers_of_regions(drawing))


def letter_numbers(drawing):
    """Give the number of each letter, ascending."""
    check_drawing(drawing)
    return tuple(numbers_of_letters(drawing))


def signs(drawing, edge):
    """Give the sign of each letter, ascending, from this edge on."""
    check_drawing(drawing)
    check_place(drawing.row, edge)
    return tuple(signs_of(drawing, edge))


def twice_mean(drawing, edge):
    """Give twice the mean of the edge."""
    check_drawing(drawing)
    check_place(drawing.row, edge)
    return twice_mean_of(drawing, edge)


def turns(drawing):
    """Give the turns of the drawing."""
    check_drawing(drawing)
    return turns_in(drawing)


def same_way(drawing):
    """Give P, which changes where two stretches meet that go the same way."""
    check_drawing(drawing)
    return same_way_of(drawing)


def opposite_way(drawing):
    """Give M, which changes where two stretches meet that go opposite ways."""
    check_drawing(drawing)
    return same_way_of(drawing) - drawing.size


def three_ways(drawing):
    """Give S, which changes where three stretches meet at one place."""
    check_drawing(drawing)
    return three_ways_of(drawing)


def on_a_ball(drawing):
    """Give P and twice S together, which do not depend on the outside."""
    check_drawing(drawing)
    return same_way_of(drawing) + 2 * three_ways_of(drawing)


def area(drawing, sizes):
    """Give the sum of number times size of all regions but the outside."""
    check_drawing(drawing)
    check_sizes(drawing, sizes)
    # The outside's size does not count, as its number is 0.
    return sum([number * size for number, size in zip(numbers_of_regions(drawing), sizes)])


def rings(drawing):
    """Give the rings of edges into which the line falls when it turns off at each letter along the other passing."""
    check_drawing(drawing)
    return tuple(rings_of(drawing.row))


def most_turns(row):
    """Give the greatest number of turns that a drawing of the row has."""
    sides, bunches = flat_told(row)
    return max(turns_counted(row, sides, bunches))


def least_same_way(row):
    """Give the least P that a drawing of the row has."""
    sides, bunches = flat_told(row)
    return least_same_way_of(row, sides, bunches)


def turns_spread(row):
    """Give the pairs of turns and how many flat sides with an outside have so many, ascending."""
    sides, bunches = flat_told(row)
    return tuple(sorted(turns_counted(row, sides, bunches).items()))


def outsides_with(drawing, number):
    """Give the regions, ascending, with which as the outside the drawing has so many turns."""
    check_drawing(drawing)
    if not is_from_to(number, -MOST_ASKED, MOST_ASKED):
        raise InvalidNumber(number)
    return tuple(outsides_for(drawing, number))


def standard(number):
    """Give the drawing of `aa`, `aabb` and so on with so many turns, as few letters as can be and the first text."""
    if not is_from_to(number, -MOST_STANDARD, MOST_STANDARD):
        raise InvalidNumber(number)
    row = "".join([letter + letter for letter in ALPHABET[:letters_for_turns(number)]])
    # The sides stand ahead of the outside in a text, so that the first sides that will do are those of the first text.
    found = {}
    for sides in flat_sides_of(row):
        if not found:
            for region in outsides_for(Drawing(row, sides, 0), number):
                turned = Drawing(row, sides, region[0])
                found[turned.text] = turned
    return found[min(found)]


def check_sizes(drawing, sizes):
    """Raise the error for what is no tuple of a size for each region."""
    if not isinstance(sizes, tuple) or len(sizes) != len(drawing.regions):
        raise InvalidAreas(None)
    for index, size in enumerate(sizes):
        if not is_from_to(size, 0, MOST_AREA):
            raise InvalidAreas(index)


def flat_told(row):
    """Give sides without handles and the bunches, or raise the error for what is no flat row of up to eight letters."""
    check_row(row)
    told = flat_choice(row)
    if told is None:
        raise NotFlat()
    check_size(row, MOST_SIDES)
    return told


def lefts_of(drawing):
    """List for each edge the number of the region to its left."""
    lefts = lefts_from(drawing.row, drawing.sides)
    outside = number_beside(lefts, drawing.outside[0])
    return [left - outside for left in lefts]


def numbers_of_regions(drawing):
    """List the number of each region, in their order."""
    lefts = lefts_of(drawing)
    return [number_beside(lefts, region[0]) for region in drawing.regions]


def numbers_of_letters(drawing):
    """List the number of each letter, ascending."""
    return numbers_at_letters(drawing.row, lefts_of(drawing))


def signs_of(drawing, edge):
    """List the sign of each letter, ascending, from this edge on."""
    return signs_from(drawing.row, drawing.sides, edge)


def twice_mean_of(drawing, edge):
    """Give twice the mean of what is known to be an edge of the drawing."""
    return 2 * lefts_of(drawing)[edge] - 1


def turns_in(drawing):
    """Give the turns of what is known to be a drawing."""
    return twice_mean_of(drawing, 0) + sum(signs_of(drawing, 0))


def same_way_of(drawing):
    """Give P of what is known to be a drawing."""
    return same_way_from(numbers_of_regions(drawing), numbers_of_letters(drawing))


def three_ways_of(drawing):
    """Give S of what is known to be a drawing."""
    doubled = twice_mean_of(drawing, 0)
    of_letters = sum([sign * number for sign, number in zip(signs_of(drawing, 0), numbers_of_letters(drawing))])
    # Twice the mean is odd, so that its square less 1 is a multiple of 4.
    return (doubled * doubled - 1) // 4 + of_letters


def rings_of(row):
    """List the rings of what is known to be a row, ascending, each one from its least edge on."""
    gone = [False] * len(row)
    found = []
    for first in range(len(row)):
        ring = []
        edge = first
        while not gone[edge]:
            gone[edge] = True
            ring.append(edge)
            edge = other_place(row, (edge + 1) % len(row))
        if ring:
            found.append(tuple(ring))
    return found


def other_place(row, place):
    """Give the other place of the letter at this place."""
    return row.find(row[place]) + row.rfind(row[place]) - place


def outsides_for(drawing, number):
    """List the regions, ascending, with which as the outside the drawing has so many turns."""
    # With another outside all numbers have the new one's taken from them, and the signs stay.
    own = turns_in(drawing)
    return [region for region, told in zip(drawing.regions, numbers_of_regions(drawing)) if own - 2 * told == number]


def letters_for_turns(number):
    """Give the least number of letters, one at least, that a drawing with so many turns has."""
    if number in (0, 1, -1):
        return abs(number) + 1
    return abs(number) - 1
