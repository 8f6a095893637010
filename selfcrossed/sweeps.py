"""Sweeps over all choices at the letters at once, letter by letter.

Behind each letter, choices that have left the same stretches to be joined by further letters are gone on with together.
A stretch is told by two lists: `starts` has for the element that it ends with the one that it starts with, `ends` has
for that the one that it ends with.
"""


def counted_walks(choices):
    """Give for each number of walks how many strings of choices make so many, and the first of these strings.

    `choices` are told as in `walks`.
    """
    half = 2 * len(choices)
    alone = tuple([*list(range(half)), *list(range(-half, 0))])
    level = {alone: (alone, {0: (1, "")})}
    for pairs_of in choices:
        level = level_behind(level, pairs_of)
    # Nothing is left to be joined, so that there is one way to leave it.
    return [counted for _, counted in level.values()][0]


def level_behind(level, pairs_of):
    """Give, by what is left to be joined behind one letter more, how it ends and what is counted for it."""
    found = {}
    for starts, (ends, counted) in level.items():
        for sign in pairs_of:
            new_starts, new_ends = list(starts), list(ends)
            closed = joined(new_starts, new_ends, pairs_of[sign])
            left = tuple(new_starts)
            if left not in found:
                found[left] = (new_ends, {})
            count_on(found[left][1], counted, closed, sign)
    return found


def joined(starts, ends, pairs):
    """Join stretches at a letter, in both lists, and count the walks that close so."""
    closed = 0
    for arriving, following in pairs:
        first, last = starts[arriving], ends[following]
        if first == following:
            closed += 1
        else:
            starts[last] = first
            ends[first] = last
        # What is joined is not asked again, and is to be no difference between what is left.
        starts[arriving] = 0
    return closed


def count_on(found, counted, closed, sign):
    """Add to what is found what is counted ahead of the letter, with its sign and so many more walks."""
    for walks in counted:
        many, first = counted[walks]
        number, text = walks + closed, first + sign
        if number in found:
            other_many, other_first = found[number]
            found[number] = (other_many + many, min(other_first, text))
        else:
            found[number] = (many, text)
