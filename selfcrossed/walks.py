"""Walks along edges, the k-th edge being told as k forwards and as -1 - k backwards.

What is told for each of these elements is kept in a list of twice as many items as there are edges: Python counts
indexes below 0 from the end, so that each element is an index of its own.

What can be done at the letters is told by *choices*: for each letter, ascending, a dict that has for each sign the
pairs of elements of which the one leads to the letter and the other is gone along behind it.
"""


def edge_of(element):
    """Give the edge that is gone along."""
    return element if element >= 0 else -1 - element


def gone_as(edge, element):
    """Give the element that goes along the edge the way in which the other element goes along its own."""
    return edge if element >= 0 else -1 - edge


def end_of(element, size):
    """Give the place to which the element leads, in a row of so many places."""
    return (element + 1) % size if element >= 0 else -1 - element


def edges_into(first, size):
    """List for each place of a line the edge that leads to it, the line having so many places from the first one on."""
    return [first + size - 1, *list(range(first, first + size - 1))]


def leaving(row, letter, into):
    """List the elements that leave a letter: out of its earlier place, out of its later one, back out of both.

    `into` tells for each place the edge that leads to it.
    """
    earlier, later = row.find(letter), row.rfind(letter)
    return [earlier, later, -1 - into[earlier], -1 - into[later]]


def onward_by(choices, signs):
    """List for each element the one that is gone along behind it when this sign is chosen at each letter."""
    onward = [0] * (4 * len(choices))
    for pairs_of, sign in zip(choices, signs):
        for arriving, following in pairs_of[sign]:
            onward[arriving] = following
    return onward


def first_elements(onward):
    """List the least element of each walk that closes, ascending.

    `onward` tells for each element the one that is gone along behind it.
    """
    half = len(onward) // 2
    gone = [False] * len(onward)
    found = []
    for first in range(-half, half):
        if not gone[first]:
            found.append(first)
            element = onward[first]
            while element != first:
                gone[element] = True
                element = onward[element]
    return found


def walk_from(onward, first):
    """Give the walk that closes from this element on."""
    walk = [first]
    element = onward[first]
    while element != first:
        walk.append(element)
        element = onward[element]
    return tuple(walk)


def walks_of(onward):
    """List the walks that close, ascending, each one from its least element on, as `first_elements` does."""
    half = len(onward) // 2
    gone = [False] * len(onward)
    walks = []
    for first in range(-half, half):
        if not gone[first]:
            walk = [first]
            element = onward[first]
            while element != first:
                gone[element] = True
                walk.append(element)
                element = onward[element]
            walks.append(tuple(walk))
    return walks
