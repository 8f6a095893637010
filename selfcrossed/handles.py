"""Handles: how many the sides of a row can have."""

from selfcrossed.errors import InvalidNumber
from selfcrossed.flat import check_sides, corners_of, handles_with, regions_of
from selfcrossed.integers import is_from_to
from selfcrossed.limits import MOST_LETTERS, MOST_SIDES
from selfcrossed.rows import check_row, check_size
from selfcrossed.sweeps import counted_walks


def least_handles(row):
    """Give the least number of handles that sides of the row have."""
    check_row(row)
    check_size(row, MOST_SIDES)
    return least_of(row)


def greatest_handles(row):
    """Give the greatest number of handles that sides of the row have."""
    check_row(row)
    check_size(row, MOST_SIDES)
    return max(handles_counted(row))


def handles_spread(row):
    """Give, for each number from 0 to the greatest one, how many sides have so many handles."""
    check_row(row)
    check_size(row, MOST_SIDES)
    counted = handles_counted(row)
    return tuple([counted[number][0] if number in counted else 0 for number in range(max(counted) + 1)])


def first_sides(row, number):
    """Give the first sides with so many handles, None if there are none."""
    check_row(row)
    if not is_from_to(number, 0, MOST_LETTERS):
        raise InvalidNumber(number)
    check_size(row, MOST_SIDES)
    return first_sides_of(row, number)


def one_region(row):
    """Give the first sides of which the drawing has just one region, None if there are none."""
    check_row(row)
    check_size(row, MOST_SIDES)
    counted = regions_counted(row)
    return counted[1][1] if 1 in counted else None


def two_shades(row, sides):
    """Tell whether the regions can be given two shades, unlike ones on both sides of each edge."""
    check_row(row)
    check_sides(row, sides)
    region_at = {element: region for region in regions_of(row, sides) for element in region}
    # Each region gets the shade that the regions beside it ask for, from one of them on.
    shades = {region_at[0]: 0}
    reached = [region_at[0]]
    index = 0
    while index < len(reached):
        region = reached[index]
        index += 1
        for element in region:
            beside = region_at[-1 - element]
            if beside not in shades:
                shades[beside] = 1 - shades[region]
                reached.append(beside)
            elif shades[beside] == shades[region]:
                return False
    return True


def first_sides_of(row, number):
    """Give the first sides with so many handles of what is known to be a row, None if there are none."""
    counted = handles_counted(row)
    return counted[number][1] if number in counted else None


def least_of(row):
    """Give the least number of handles of what is known to be a row."""
    return min(handles_counted(row))


def handles_counted(row):
    """Give for each number of handles how many sides of the row have so many, and the first of these."""
    counted = regions_counted(row)
    return {handles_with(row, number): counted[number] for number in counted}


def regions_counted(row):
    """Give for each number of regions how many sides of the row make so many, and the first of these."""
    first, *others = corners_of(row)
    # A mirror has as many regions, so that half of all sides are enough, those that begin with a plus.
    counted = counted_walks([{"+": first["+"]}, *others])
    return {number: (2 * counted[number][0], counted[number][1]) for number in counted}
