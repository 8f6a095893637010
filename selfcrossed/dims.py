"""Dim rows: rows some letters of which were not seen, and what is sure of them."""

from itertools import permutations

from selfcrossed.errors import InvalidDim, InvalidIndex, InvalidPlace, InvalidRow
from selfcrossed.flat import flat_choice, is_flat_row
from selfcrossed.handles import least_of
from selfcrossed.integers import is_from_to
from selfcrossed.limits import MOST_DIM, MOST_UNSEEN
from selfcrossed.links import linked_of
from selfcrossed.looks import first_looks, least_looks
from selfcrossed.nests import turns_counted
from selfcrossed.rows import ALPHABET, check_row, plain_of

UNSEEN = "?"


def is_dim(value):
    """Tell whether any value is a dim row."""
    if not isinstance(value, str) or not 2 <= len(value) <= MOST_DIM or len(value) & 1 == 1:
        return False
    if not all([sign == UNSEEN or (sign in ALPHABET and value.count(sign) <= 2) for sign in value]):
        return False
    unseen = value.count(UNSEEN)
    return 1 <= unseen <= MOST_UNSEEN and len(single_letters(value)) <= unseen


def count_fillings(dim):
    """Count the fillings of the dim row."""
    check_dim(dim)
    return len(fillings_of(dim))


def fillings(dim):
    """Give the ascending tuple of the fillings of the dim row."""
    check_dim(dim)
    return tuple(fillings_of(dim))


def nth_filling(dim, index):
    """Give the filling with this index."""
    check_dim(dim)
    rows = fillings_of(dim)
    if not is_from_to(index, 0, len(rows) - 1):
        raise InvalidIndex(index)
    return rows[index]


def flat_fillings(dim):
    """Count the fillings that are flat."""
    check_dim(dim)
    return len(flat_fillings_of(dim))


def flat_word(dim):
    """Tell whether it is sure that the dim row is flat, that it is not, or neither."""
    check_dim(dim)
    told = [is_flat_row(row) for row in fillings_of(dim)]
    if all(told):
        return "sure"
    return "open" if any(told) else "never"


def handles_of(dim):
    """Give the pairs of a least number of handles and how many fillings have it, ascending."""
    check_dim(dim)
    told = [least_of(row) for row in fillings_of(dim)]
    return tuple([(number, told.count(number)) for number in sorted(set(told))])


def sure_links(dim):
    """Give the pairs of letters seen that are linked in all fillings, ascending."""
    check_dim(dim)
    number = len(fillings_of(dim))
    return tuple([pair for pair, times in times_linked(dim) if times == number])


def never_links(dim):
    """Give the pairs of letters seen that are linked in no filling, ascending."""
    check_dim(dim)
    return tuple([pair for pair, times in times_linked(dim) if times == 0])


def turns_of(dim):
    """Give all turns that some drawing of some filling has, ascending."""
    check_dim(dim)
    found = set()
    for row in fillings_of(dim):
        told = flat_choice(row)
        if told is not None:
            sides, bunches = told
            for number in turns_counted(row, sides, bunches):
                found.add(number)
    return tuple(sorted(found))


def sure_pairs(dim):
    """Give the pairs of places, one of them not seen, that have the same letter in all flat fillings, ascending."""
    check_dim(dim)
    rows = flat_fillings_of(dim)
    if not rows:
        return None
    size = len(dim)
    pairs = [(j, k) for j in range(size) for k in range(j + 1, size) if UNSEEN in (dim[j], dim[k])]
    return tuple([(j, k) for j, k in pairs if all([row[j] == row[k] for row in rows])])


def looks_needed(dim):
    """Give the least number of looks behind which one always knows whether the dim row is flat."""
    check_dim(dim)
    mates, are_flat = told_by_looks(dim)
    return least_looks(mates, are_flat)


def best_looks(dim):
    """Give the places with which one can begin to look so that the least number is enough, ascending."""
    check_dim(dim)
    mates, are_flat = told_by_looks(dim)
    unseen = unseen_places(dim)
    return tuple([unseen[index] for index in first_looks(mates, are_flat)])


def hidden(row, places):
    """Give the dim row that the row becomes when these places are not seen."""
    check_row(row)
    if len(row) > MOST_DIM:
        raise InvalidRow(row)
    check_places(row, places)
    return "".join([UNSEEN if place in places else letter for place, letter in enumerate(row)])


def fillings_like(dim, row):
    """Count the fillings that are the same line as the row."""
    check_dim(dim)
    check_row(row)
    goal = plain_of(row)
    return len([filling for filling in fillings_of(dim) if plain_of(filling) == goal])


def check_dim(dim):
    """Raise the error for what is no dim row."""
    if not is_dim(dim):
        raise InvalidDim(dim)


def check_places(row, places):
    """Raise the error for what is no tuple of one to six places of the row, ascending."""
    if not isinstance(places, tuple) or not 1 <= len(places) <= MOST_UNSEEN:
        raise InvalidPlace(places)
    least = 0
    for place in places:
        if not is_from_to(place, least, len(row) - 1):
            raise InvalidPlace(places)
        least = place + 1


def single_letters(dim):
    """Give the letters that stand once, ascending."""
    return "".join([letter for letter in ALPHABET if dim.count(letter) == 1])


def unseen_places(dim):
    """List the places that were not seen, ascending."""
    return [place for place, sign in enumerate(dim) if sign == UNSEEN]


def fillings_of(dim):
    """List the fillings, ascending, of what is known to be a dim row."""
    single = single_letters(dim)
    new = [letter for letter in ALPHABET if letter not in dim]
    unseen = unseen_places(dim)
    number = len(single)
    found = []
    for mates in permutations(unseen, number):
        left = [place for place in unseen if place not in mates]
        for pairs in pairings(left):
            letter_at = dict(zip(mates, single))
            # The pairs come by their first places, which is the order of the new letters.
            for (one, other), letter in zip(pairs, new):
                letter_at[one] = letter_at[other] = letter
            found.append("".join([letter_at.get(place, sign) for place, sign in enumerate(dim)]))
    return sorted(found)


def pairings(places):
    """List all ways to put these places, evenly many, in pairs, each way by the first places of its pairs."""
    if not places:
        return [[]]
    first = places[0]
    found = []
    for other in places[1:]:
        left = [place for place in places[1:] if place != other]
        found.extend([[(first, other), *pairs] for pairs in pairings(left)])
    return found


def flat_fillings_of(dim):
    """List the flat fillings, ascending, of what is known to be a dim row."""
    return [row for row in fillings_of(dim) if is_flat_row(row)]


def times_linked(dim):
    """List for each pair of letters seen, ascending, in how many fillings they are linked."""
    seen = [letter for letter in ALPHABET if letter in dim]
    tables = [linked_of(row) for row in fillings_of(dim)]
    pairs = [(one, other) for one in seen for other in seen if one < other]
    return [(one + other, len([table for table in tables if other in table[one]])) for one, other in pairs]


def told_by_looks(dim):
    """Give for each filling what a look at each place not seen tells, and for each one whether it is flat."""
    rows = fillings_of(dim)
    unseen = unseen_places(dim)
    mates = [[row.find(row[place]) + row.rfind(row[place]) - place for place in unseen] for row in rows]
    return mates, [is_flat_row(row) for row in rows]
