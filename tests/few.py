"""All rows and drawings with few letters, and what the document says of them, told once more in plain steps."""

import functools
import itertools

from selfcrossed.drawings import Drawing
from selfcrossed.rows import count_rows, named, nth_row

# Letters of which the order is another one than that of their first places in most rows.
OTHER_LETTERS = ("", "d", "cj", "jbf", "bjca", "gbjda", "hcjafb")


@functools.lru_cache(maxsize=None)
def rows_with(number):
    """All rows with so many letters, these coming first in the order of the alphabet."""
    return [nth_row(number, index) for index in range(count_rows(number))]


@functools.lru_cache(maxsize=None)
def few_rows(most):
    """All rows with up to so many letters, and once more with letters in another order."""
    found = [row for number in range(1, most + 1) for row in rows_with(number)]
    return found + [renamed(row) for row in found]


@functools.lru_cache(maxsize=None)
def some_rows():
    """All rows with up to four letters and some with five, and once more with letters in another order."""
    found = rows_with(5)[::8]
    return few_rows(4) + found + [renamed(row) for row in found]


def renamed(row):
    """The row with letters of which the order is another one."""
    others = OTHER_LETTERS[len(row) // 2]
    order = sorted(set(row), key=row.index)
    return "".join([others[order.index(letter)] for letter in row])


@functools.lru_cache(maxsize=None)
def all_sides(number):
    """All sides of so many letters, ascending."""
    return ["".join(sides) for sides in itertools.product("+-", repeat=number)]


def are_linked_by_places(row, letter, other):
    """Whether the places of both letters part one another."""
    j, k = [place for place, sign in enumerate(row) if sign == letter]
    between = [place for place, sign in enumerate(row) if sign == other and j < place < k]
    return letter != other and len(between) == 1


def graph(row):
    """The letters of the row, each with those that are linked with it."""
    own = sorted(set(row))
    return {letter: {other for other in own if are_linked_by_places(row, letter, other)} for letter in own}


def regions_by_corners(row, sides):
    """The regions as [9] tells them, going from half edge to half edge."""
    size = len(row)
    around = {}
    for letter, side in zip(sorted(set(row)), sides):
        earlier, later = [place for place, sign in enumerate(row) if sign == letter]
        ring = [("out", earlier), ("out", later), ("into", earlier), ("into", later)]
        if side == "-":
            ring = [ring[0], ring[3], ring[2], ring[1]]
        for index, half in enumerate(ring):
            around[ring[(index + 1) % 4]] = half
    found = []
    left = set(range(-size, size))
    while left:
        first = element = min(left)
        region = []
        while element not in region:
            region.append(element)
            half = ("into", (element + 1) % size) if element >= 0 else ("out", -1 - element)
            way, place = around[half]
            element = place if way == "out" else -1 - (place - 1) % size
        assert element == first
        left -= set(region)
        found.append(tuple(region))
    return tuple(sorted(found))


@functools.lru_cache(maxsize=None)
def flat_choices(row):
    """All sides of the row whose regions are two more than its letters."""
    return [sides for sides in all_sides(len(row) // 2) if len(regions_by_corners(row, sides)) == len(row) // 2 + 2]


@functools.lru_cache(maxsize=None)
def drawings_with(number):
    """All drawings with so many letters, these coming first in the order of the alphabet."""
    return [drawing for row in rows_with(number) for drawing in drawings_by_regions(row)]


def drawings_by_regions(row):
    """All drawings of the row."""
    return [
        Drawing(row, sides, region[0]) for sides in flat_choices(row) for region in regions_by_corners(row, sides)
    ]


@functools.lru_cache(maxsize=None)
def few_drawings(most):
    """All drawings with up to so many letters, and once more with letters in another order."""
    found = [drawing for number in range(1, most + 1) for drawing in drawings_with(number)]
    return found + [with_letters(drawing, OTHER_LETTERS[drawing.size]) for drawing in found]


def with_letters(drawing, others):
    """The drawing with other letters, the k-th one of its own becoming the k-th one of these."""
    side_of = dict(zip(others, drawing.sides))
    sides = "".join([side_of[letter] for letter in sorted(others)])
    return Drawing(named(drawing.row, others), sides, drawing.outside[0])
