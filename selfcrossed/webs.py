"""Webs: the letters of a row and the edges that join them, whichever way the line goes on at the letters.

A tour goes along the same edges, so that two rows have one web just if some naming gives any two letters as many edges
between them as their own names have. All ways to go on at a letter are some turning of it.
"""

from selfcrossed.rows import distances_back, letters_of, plain_of
from selfcrossed.walks import edge_of, edges_into, end_of, leaving


def ends_of(row):
    """Give for each letter those to which its edges lead: out of both of its places, and back out of both."""
    size = len(row)
    found = {}
    for letter in letters_of(row):
        earlier, later = row.find(letter), row.rfind(letter)
        found[letter] = row[earlier + 1] + row[(later + 1) % size] + row[earlier - 1] + row[later - 1]
    return found


def namings_of(one, other):
    """List the namings that make the web of the one row that of the other one, each one for the letters ascending."""
    ends, other_ends = ends_of(one), ends_of(other)
    kinds = {letter: kind_of(letter, ends[letter]) for letter in ends}
    other_kinds = {letter: kind_of(letter, other_ends[letter]) for letter in other_ends}
    if sorted(kinds.values()) != sorted(other_kinds.values()):
        return []
    # By their first places the letters follow one another along edges, so that few namings are begun in vain.
    order = "".join(dict(zip(one, one)))
    made = [""]
    for index, letter in enumerate(order):
        edges = [ends[letter].count(earlier) for earlier in order[:index]]
        like = [name for name in other_kinds if other_kinds[name] == kinds[letter]]
        made = [
            naming + name for naming in made for name in like
            if name not in naming and [other_ends[name].count(earlier) for earlier in naming] == edges
        ]
    indexes = [order.find(letter) for letter in ends]
    return ["".join([naming[each] for each in indexes]) for naming in made]


def kind_of(letter, ends):
    """Tell how many of a letter's ends lead to itself, and for each of them how many lead where it leads, ascending."""
    return [ends.count(letter), *sorted([ends.count(other) for other in ends])]


def straight_ends(row):
    """Give for each letter all strings that tell, as `ends_of` does, between which letters the line goes straight on.

    They are the keys of a dict, and stand for all ways to go and for both orders of the passings.
    """
    found = {}
    ends = ends_of(row)
    for letter in ends:
        one, two, three, four = ends[letter]
        told = {}
        for first, second in (((one, three), (two, four)), ((two, four), (one, three))):
            for near, far in (first, first[::-1]):
                told[near + second[0] + far + second[1]] = True
                told[near + second[1] + far + second[0]] = True
        found[letter] = told
    return found


def by_turning(namings, index, around, straight):
    """Give for each turning the namings with which it fits at the letter with this index, told by `straight_ends`.

    The indexes of the letters to which its edges lead are told in the order of `ends_of`. Edges that lead to one letter
    are taken for one another here, so that what fits at all letters need not make the tour.
    """
    found = {"=": [], "o": [], "x": []}
    for naming in namings:
        one, two, three, four = [naming[each] for each in around]
        told = straight[naming[index]]
        if one + two + three + four in told:
            found["="].append(naming)
        if one + two + four + three in told:
            found["o"].append(naming)
        if one + three + two + four in told:
            found["x"].append(naming)
    return found


def plain_tours_of(row):
    """List the plain rows, unlike ones, of all tours of the row, ascending."""
    known = {}
    found = []
    for tour in tours_from_last(row):
        distances = distances_back(tour)
        if tuple(distances) not in known:
            found.append(plain_of(tour))
            for way in ways_round(distances):
                known[way] = True
    return sorted(found)


def tours_from_last(row):
    """List tours that begin with the last edge backwards, all of them but for the names of letters."""
    size = len(row)
    exits = exits_of(row)
    # Each one as far as it goes: the last element, the edges gone by the digits of a number, and the letters met.
    level = [(-size, 1 << (size - 1), row[-1])]
    for _ in range(size - 1):
        following = []
        for element, gone, met in level:
            last = ""
            for onward, edge, letter in exits[element]:
                # It is all the same which one is taken of edges that lead to the same letter.
                if gone & edge == 0 and letter != last:
                    last = letter
                    following.append((onward, gone | edge, met + letter))
        level = following
    return [met for _, _, met in level]


def exits_of(row):
    """List for each element those that one can go on along, each with its edge as a digit and the letter it leads to.

    They ascend by the letters to which they lead.
    """
    size = len(row)
    into = edges_into(0, size)
    exits = [[]] * (2 * size)
    for letter in letters_of(row):
        out = [(row[end_of(element, size)], element) for element in leaving(row, letter, into)]
        for _, arriving in out:
            others = sorted([each for each in out if each[1] != arriving])
            exits[-1 - arriving] = [(element, 1 << edge_of(element), name) for name, element in others]
    return exits


def ways_round(distances):
    """List what all ways to begin and to go make of the distances of a row."""
    size = len(distances)
    found = []
    for way in (distances, [size - distance for distance in distances[::-1]]):
        twice = tuple(way + way)
        found.extend([twice[start:start + size] for start in range(size)])
    return found
