"""Bunches of a flat row that hang in one another, and what they tell of all its drawings at once.

Who is between two places of a bunch is in it, and a bunch that stands there hangs in it. If all letters of a bunch are
turned over, it is mirrored with all that hangs in it, and the rest stays as it is. So each bunch is looked at alone,
with numbers relative to the one to the left of the edge that leads to it: mirrored, k becomes -1 - k.
"""

from selfcrossed.flat import onward_of
from selfcrossed.measures import lefts_from, number_beside, numbers_at_letters, same_way_with
from selfcrossed.rows import letters_of
from selfcrossed.walks import walks_of


class Nest:
    """A bunch, or the sheet in which all of them hang."""

    def __init__(self, base, left):
        # The number to the left of the edge that leads to it, and how many of its places are still ahead.
        self.base = base
        self.left = left
        # The numbers of its own regions and letters, and the sum of the signs of these.
        self.inner = []
        self.crossed = []
        self.turning = 0
        # What hangs in it: pairs of an index, and of how much greater the number to the left is there.
        self.hanging = []


def nests_of(row, sides, bunches):
    """List the nests of a row with sides that have no handles, each one ahead of those that hang in it.

    The first one is the sheet; the regions on both hands of the last edge are its own.
    """
    lefts = lefts_from(row, sides)
    nests = [Nest(lefts[-1], 0)]
    nest_of, edge_in = hung(row, lefts, bunches, nests)
    for letter, side, number in zip(letters_of(row), sides, numbers_at_letters(row, lefts)):
        nest = nests[nest_of[letter]]
        nest.crossed.append(number - nest.base)
        # From the last edge on the places are passed in their order.
        nest.turning += -1 if side == "+" else 1
    beside = edge_in + edge_in[::-1]
    for region in walks_of(onward_of(row, sides)):
        # Of the nests by which it goes, all others hang in the one whose own it is.
        nest = nests[min([beside[element] for element in region])]
        nest.inner.append(number_beside(lefts, region[0]) - nest.base)
    return nests


def hung(row, lefts, bunches, nests):
    """Put a nest for each bunch behind the sheet, and hang it where it belongs.

    Given are, by their indexes, the nest of each letter and a list of that in which each edge lies.
    """
    bunch_of = {letter: bunch for bunch in bunches for letter in bunch}
    nest_of = {}
    edge_in = []
    within = [0]
    for place, letter in enumerate(row):
        if letter not in nest_of:
            outer = nests[within[-1]]
            outer.hanging.append((len(nests), lefts[place - 1] - outer.base))
            within.append(len(nests))
            nest_of.update({other: len(nests) for other in bunch_of[letter]})
            nests.append(Nest(lefts[place - 1], 2 * len(bunch_of[letter])))
        nest = nests[within[-1]]
        nest.left -= 1
        if nest.left == 0:
            within.pop()
        edge_in.append(within[-1])
    return nest_of, edge_in


def turns_counted(row, sides, bunches):
    """Give for each number of turns how many pairs of sides without handles and an outside have so many.

    Needed are some such sides and the bunches.
    """
    nests = nests_of(row, sides, bunches)
    told = {}
    for index in range(len(nests) - 1, 0, -1):
        ways, spread = counted_in(nests[index], told)
        told[index] = either_way(nests[index], ways, spread)
    _, spread = counted_in(nests[0], told)
    # With another outside all numbers are less by its own one, and twice the last edge's mean is -1 without that.
    return {power - 1: spread[power] for power in spread}


def counted_in(nest, told):
    """Count the drawings of what hangs in the nest, for itself being drawn in one way, and without its own signs.

    The first dict has for each sum of signs how many drawings have it. The second one has for each sum of signs, less
    twice the number of a region in the nest, how many drawings have it with one of their regions.
    """
    ways = {0: 1}
    spread = {}
    for number in nest.inner:
        spread[-2 * number] = spread.get(-2 * number, 0) + 1
    for index, shift in nest.hanging:
        other_ways, other_spread = told[index]
        # A region is either one of those known before or one that hangs there.
        new_spread, new_ways = {}, {}
        add_products(new_spread, spread, other_ways, 0)
        add_products(new_spread, ways, other_spread, -2 * shift)
        add_products(new_ways, ways, other_ways, 0)
        ways, spread = new_ways, new_spread
    return ways, spread


def either_way(nest, ways, spread):
    """Give what `counted_in` counts if the nest is drawn in both ways, and with the signs of its own letters."""
    both_ways, both = {}, {}
    for turning in (nest.turning, -nest.turning):
        add_products(both_ways, ways, {0: 1}, turning)
    add_products(both, spread, {0: 1}, nest.turning)
    # Mirrored, all signs change, and twice the number of a region, k, becomes -2 - k.
    add_products(both, {2 - power: spread[power] for power in spread}, {0: 1}, -nest.turning)
    return both_ways, both


def add_products(found, one, other, shift):
    """Add to what is found, for each two sums with what is counted for them, the product for both and the shift."""
    for power in one:
        for more in other:
            total = power + more + shift
            found[total] = found.get(total, 0) + one[power] * other[more]


def least_same_way_of(row, sides, bunches):
    """Give the least P that any sides without handles have with any outside.

    Needed are some such sides and the bunches.
    """
    nests = nests_of(row, sides, bunches)
    told = {}
    for index in range(len(nests) - 1, 0, -1):
        told[index] = sums_either_way(sums_in(nests[index], told))
    sums = sums_in(nests[0], told)
    # Among the outsides of a drawing either that with the greatest number or that with the least one has the least P,
    # as P goes by the square of this number, taken away.
    return min([
        same_way_with(len(sides), squares, numbers, outside)
        for (numbers, top, low), squares in sums.items() for outside in (top, low)
    ])


def sums_in(nest, told):
    """Sum the numbers in the nest for all drawings of what hangs in it, itself being drawn in one way.

    A key of the dict tells the sum of the numbers of regions, less those of letters, and the greatest and the least
    number of a region. It has the greatest sum of the squares of these numbers, less those of letters, that there is.
    """
    numbers = sum(nest.inner) - sum(nest.crossed)
    squares = sum([number * number for number in nest.inner]) - sum([number * number for number in nest.crossed])
    sums = {(numbers, max(nest.inner), min(nest.inner)): squares}
    for index, shift in nest.hanging:
        sums = sums_of_both(sums, told[index], shift)
    return sums


def sums_of_both(sums, others, shift):
    """Sum what stands in two dicts of sums, the numbers of the others being shifted."""
    found = {}
    for (numbers, top, low), squares in sums.items():
        for (more, other_top, other_low), other_squares in others.items():
            key = (numbers + more, max(top, other_top + shift), min(low, other_low + shift))
            # There are as many letters as regions among the others, so that the sum of their numbers stays.
            told = squares + other_squares + 2 * shift * more
            found[key] = max(told, found.get(key, told))
    return found


def sums_either_way(sums):
    """Give the sums if the nest itself is drawn in both ways."""
    found = {key: sums[key] for key in sums}
    for (numbers, top, low), squares in sums.items():
        key = (-numbers, -1 - low, -1 - top)
        told = squares + 2 * numbers
        found[key] = max(told, found.get(key, told))
    return found
