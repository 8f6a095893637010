"""Numbers of a row with flat sides, whatever its outside is: here the region to the left of the edge 0 has 0.

With another outside all numbers are less by the number that it has here.
"""

from selfcrossed.flat import corners_of, flat_sides_of
from selfcrossed.rows import letters_of
from selfcrossed.walks import edge_of, first_elements, onward_by


def lefts_from(row, sides):
    """List for each edge the number of the region to its left."""
    side_of = dict(zip(letters_of(row), sides))
    lefts = [0]
    for place in range(1, len(row)):
        letter = row[place]
        # Whoever comes across the other passing from its right to its left has 1 more on both hands then.
        rises = (letter in row[:place]) == (side_of[letter] == "+")
        lefts.append(lefts[-1] + (1 if rises else -1))
    return lefts


def number_beside(lefts, element):
    """Give the number of the region to the left of the element."""
    return lefts[element] if element >= 0 else lefts[edge_of(element)] - 1


def numbers_at_letters(row, lefts):
    """List the number of each letter, ascending."""
    # Of the edges that lead to a place and from it the one has at its left the letter's number, the other 1 more.
    return [min(lefts[row.find(letter) - 1], lefts[row.find(letter)]) for letter in letters_of(row)]


def signs_from(row, sides, edge):
    """List the sign of each letter, ascending, from this edge on."""
    found = []
    for letter, side in zip(letters_of(row), sides):
        # Behind the edge one comes first to the later place of a letter that has just one place ahead of it.
        is_exchanged = row[:edge + 1].count(letter) == 1
        found.append(1 if is_exchanged == (side == "+") else -1)
    return found


def turns_from(row, sides):
    """Give the turns that there are if the region to the left of the edge 0 is the outside."""
    # Twice the mean of that edge is -1 then.
    return sum(signs_from(row, sides, 0)) - 1


def same_way_from(of_regions, of_letters):
    """Give P by the numbers of all regions and of all letters."""
    squares = sum([number * number for number in of_regions]) - sum([number * number for number in of_letters])
    return 1 + len(of_letters) - squares


def turns_of_half(row):
    """List the turns of half of all flat sides with each outside.

    The other half are the mirrors of these, which have the opposite turns.
    """
    found = []
    for sides, _, numbers in half_of_all(row):
        own = turns_from(row, sides)
        found.extend([own - 2 * number for number in numbers])
    return found


def least_same_way_of(row):
    """Give the least P that flat sides with any outside have."""
    found = []
    for _, lefts, numbers in half_of_all(row):
        of_letters = numbers_at_letters(row, lefts)
        # A mirror has the same P, and so have all outsides with one number.
        for outside in sorted(set(numbers)):
            less = [number - outside for number in numbers]
            found.append(same_way_from(less, [number - outside for number in of_letters]))
    return min(found)


def half_of_all(row):
    """List for half of all flat sides the sides, the numbers to the left of the edges and those of the regions.

    The other half are the mirrors of these.
    """
    corners = corners_of(row)
    found = []
    for sides in flat_sides_of(row):
        if sides[0] == "+":
            lefts = lefts_from(row, sides)
            firsts = first_elements(onward_by(corners, sides))
            found.append((sides, lefts, [number_beside(lefts, element) for element in firsts]))
    return found
