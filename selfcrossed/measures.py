"""Numbers of a row with flat sides, whatever its outside is: here the region to the left of the edge 0 has 0.

With another outside all numbers are less by the number that it has here.
"""

from selfcrossed.rows import letters_of
from selfcrossed.walks import edge_of


def lefts_from(row, sides):
    """List for each edge the number of the region to its left."""
    side_of = dict(zip(letters_of(row), sides))
    lefts = [0]
    for place in range(1, len(row)):
        letter = row[place]
        # Whoever comes across the other passing from its right to its left has 1 more on both hands then.
        rises = (letter in row[:place]) == (side_of[letter] == "+")
        lefts.append(lefts[-1] + (1 if rises else -1))
    return lefts


def number_beside(lefts, element):
    """Give the number of the region to the left of the element."""
    return lefts[element] if element >= 0 else lefts[edge_of(element)] - 1


def numbers_at_letters(row, lefts):
    """List the number of each letter, ascending."""
    # Of the edges that lead to a place and from it the one has at its left the letter's number, the other 1 more.
    return [min(lefts[row.find(letter) - 1], lefts[row.find(letter)]) for letter in letters_of(row)]


def signs_from(row, sides, edge):
    """List the sign of each letter, ascending, from this edge on."""
    found = []
    for letter, side in zip(letters_of(row), sides):
        # Behind the edge one comes first to the later place of a letter that has just one place ahead of it.
        is_exchanged = row[:edge + 1].count(letter) == 1
        found.append(1 if is_exchanged == (side == "+") else -1)
    return found


def same_way_from(of_regions, of_letters):
    """Give P by the numbers of all regions and of all letters."""
    squares = sum([number * number for number in of_regions]) - sum([number * number for number in of_letters])
    return 1 + len(of_letters) - squares


def same_way_with(size, squares, numbers, outside):
    """Give P if a region with this number is the outside, so that all numbers are less by it.

    The sums of the numbers of all regions, and of their squares, less those of all letters, are told without it.
    """
    # There are two more regions than letters.
    return 1 + size - (squares - 2 * outside * numbers + 2 * outside * outside)
