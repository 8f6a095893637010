"""Looks: how few of them are needed to know which of two kinds something is.

`told` has for each thing that it may be what each look would tell then, `kinds` for each of these its kind.
"""


def least_looks(told, kinds):
    """Give the least number of looks behind which one always knows the kind."""
    return looks_among(tuple(range(len(kinds))), told, kinds, {})


def first_looks(told, kinds):
    """List the looks with which one can begin so that the least number of looks is enough, ascending."""
    left = tuple(range(len(kinds)))
    known = {}
    least = looks_among(left, told, kinds, known)
    if least == 0:
        return []
    looks = range(len(told[0]))
    return [look for look in looks if looks_behind(parts_by(left, told, look), told, kinds, known) == least - 1]


def looks_among(left, told, kinds, known):
    """Give the least number of looks behind which one always knows the kind when these are left.

    `known` keeps what was found for others that may be left.
    """
    if left not in known:
        known[left] = counted_looks(left, told, kinds, known)
    return known[left]


def counted_looks(left, told, kinds, known):
    """Count the looks as `looks_among` tells."""
    if all([kinds[index] == kinds[left[0]] for index in left]):
        return 0
    found = []
    for look in range(len(told[0])):
        parts = parts_by(left, told, look)
        # A look that leaves all that was possible tells nothing.
        if len(parts) > 1:
            found.append(1 + looks_behind(parts, told, kinds, known))
    return min(found)


def looks_behind(parts, told, kinds, known):
    """Give the number of looks that are needed at most when one of these parts is left."""
    return max([looks_among(part, told, kinds, known) for part in parts])


def parts_by(left, told, look):
    """List the parts into which the look parts what is left."""
    parts = {}
    for index in left:
        mate = told[index][look]
        if mate not in parts:
            parts[mate] = []
        parts[mate].append(index)
    return [tuple(parts[mate]) for mate in parts]
