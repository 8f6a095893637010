"""What the checker finds out about drawings by itself.

A sheet is a tuple here: a row, its sides, its regions and the one of these that is the outside. What is measured of it
is another one: the row, the sides, the number to the left of each edge, and the numbers of the regions.
"""

from selfcrossed.checked_rows import are_integers, are_sides, is_row, letters_in, regions_of


def sheet_in(value):
    """Give the sheet of which any value is the text, None if it is the text of none."""
    words = value.split(" ") if isinstance(value, str) else []
    if len(words) != 3 or not is_row(words[0]) or not are_sides(words[0], words[1]):
        return None
    row, sides, least = words
    regions = regions_of((row,), sides)
    if len(regions) != len(sides) + 2:
        return None
    fitting = [region for region in regions if str(region[0]) == least]
    return (row, sides, regions, fitting[0]) if fitting else None


def measured_in(value):
    """Give what is measured of the sheet of which any value is the text, None if it is the text of none."""
    sheet = sheet_in(value)
    if sheet is None:
        return None
    row, sides, regions, outside = sheet
    lefts = lefts_along(row, sides)
    outer = number_to_the_left(lefts, outside[0])
    lefts = [left - outer for left in lefts]
    return row, sides, lefts, tuple([number_to_the_left(lefts, region[0]) for region in regions])


def lefts_along(row, sides):
    """List for each edge the number to its left, as it is if that of the last edge is 0."""
    rises = dict(zip(letters_in(row), [1 if side == "-" else -1 for side in sides]))
    lefts = []
    left = 0
    for letter in row:
        # Who comes across the other passing from its right has 1 more on both hands then, otherwise 1 less.
        left += rises[letter]
        rises[letter] = -rises[letter]
        lefts.append(left)
    return lefts


def number_to_the_left(lefts, element):
    """Give the number of the region to the left of the element."""
    return lefts[element] if element >= 0 else lefts[-1 - element] - 1


def are_numbers(measured, value):
    """Tell whether any value is the tuple of the numbers of the regions."""
    return are_integers(value) and value == measured[3]


def signs_measured(measured):
    """List the signs of the letters, ascending, from the last edge on: their places are passed in order then."""
    return [-1 if side == "+" else 1 for side in measured[1]]


def letters_measured(measured):
    """List the numbers of the letters, ascending."""
    row, _, lefts, _ = measured
    # Of the edges to a place and from it the one has the letter's number to its left, the other 1 more.
    return [min(lefts[row.find(letter) - 1], lefts[row.find(letter)]) for letter in letters_in(row)]


def turns_measured(measured):
    """Give the turns."""
    return 2 * measured[2][-1] - 1 + sum(signs_measured(measured))


def same_way_measured(measured):
    """Give P."""
    of_regions = sum([number * number for number in measured[3]])
    of_letters = sum([number * number for number in letters_measured(measured)])
    return 1 + len(measured[1]) - of_regions + of_letters


def opposite_way_measured(measured):
    """Give M."""
    return same_way_measured(measured) - len(measured[1])


def three_ways_measured(measured):
    """Give S."""
    doubled = 2 * measured[2][-1] - 1
    of_letters = sum([sign * number for sign, number in zip(signs_measured(measured), letters_measured(measured))])
    return (doubled * doubled - 1) // 4 + of_letters
