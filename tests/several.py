"""All lines with few letters, and what the document says of them, told once more in plain steps."""

import functools
import itertools

from tests.few import all_sides, rows_with

OTHER_LETTERS = ("", "d", "cj", "jbf", "bjca", "gbjda")


@functools.lru_cache(maxsize=None)
def lines_with(number):
    """All lines with so many letters, these coming first in the order of the alphabet along the lines."""
    found = []
    for row in rows_with(number):
        for many in range(3):
            for cuts in itertools.combinations(range(1, len(row)), many):
                ends = [0, *cuts, len(row)]
                found.append(tuple([row[start:end] for start, end in zip(ends, ends[1:])]))
    return found


@functools.lru_cache(maxsize=None)
def few_lines(most):
    """All lines with up to so many letters, and once more with letters in another order."""
    found = [lines for number in range(1, most + 1) for lines in lines_with(number)]
    return found + [renamed_lines(lines) for lines in found]


def renamed_lines(lines):
    """The lines with letters of which the order is another one."""
    text = "".join(lines)
    others = dict(zip(sorted(set(text)), OTHER_LETTERS[len(text) // 2]))
    return tuple(["".join([others[letter] for letter in line]) for line in lines])


def regions_of_lines(lines, sides):
    """The regions as [9] and [21] tell them, going from half edge to half edge."""
    places = [(index, at) for index, line in enumerate(lines) for at in range(len(line))]
    number = {place: k for k, place in enumerate(places)}
    ahead = {}
    for index, at in places:
        ahead[number[(index, (at + 1) % len(lines[index]))]] = number[(index, at)]
    behind = {edge: place for place, edge in ahead.items()}
    text = "".join(lines)
    around = {}
    for letter, side in zip(sorted(set(text)), sides):
        earlier, later = [place for place, sign in enumerate(text) if sign == letter]
        ring = [("out", earlier), ("out", later), ("into", earlier), ("into", later)]
        if side == "-":
            ring = [ring[0], ring[3], ring[2], ring[1]]
        for index, half in enumerate(ring):
            around[ring[(index + 1) % 4]] = half
    found = []
    left = set(range(-len(text), len(text)))
    while left:
        first = element = min(left)
        region = []
        while element not in region:
            region.append(element)
            half = ("into", behind[element]) if element >= 0 else ("out", -1 - element)
            way, place = around[half]
            element = place if way == "out" else -1 - ahead[place]
        assert element == first
        left -= set(region)
        found.append(tuple(region))
    return tuple(sorted(found))


def parts_of(lines):
    """How many parts the lines have: one line after the other takes in all that it reaches."""
    left = set(range(len(lines)))
    found = 0
    while left:
        reached = {left.pop()}
        grown = True
        while grown:
            more = {other for other in left if any(set(lines[other]) & set(lines[index]) for index in reached)}
            grown = bool(more)
            reached |= more
            left -= more
        found += 1
    return found


@functools.lru_cache(maxsize=None)
def handles_by_corners(lines, sides):
    doubled = 2 * parts_of(lines) + len(sides) - len(regions_of_lines(lines, sides))
    assert doubled % 2 == 0
    return doubled // 2


@functools.lru_cache(maxsize=None)
def flat_choices_of_lines(lines):
    """All sides of the lines without handles."""
    return [sides for sides in all_sides(len("".join(lines)) // 2) if handles_by_corners(lines, sides) == 0]


def plain_by_hand(lines):
    """The least of all tuples that are the same lines and ascend, all ways to give letters being tried."""
    own = sorted(set("".join(lines)))
    told = []
    for order in itertools.permutations(lines):
        for ways in itertools.product(*[ways_round(line) for line in order]):
            for letters in itertools.permutations("abcdefghij"[:len(own)]):
                others = str.maketrans("".join(own), "".join(letters))
                made = tuple([way.translate(others) for way in ways])
                if list(made) == sorted(made):
                    told.append(made)
    return min(told)


def ways_round(line):
    found = []
    for place in range(len(line)):
        way = line[place:] + line[:place]
        found += [way, way[::-1]]
    return sorted(set(found))
