"""Dim rows with few places, and what the document says of them, told once more in plain steps."""

import functools
import itertools

from tests.few import flat_choices
from tests.pictures import Numbers


def is_dim_by_counts(text):
    counts = {letter: text.count(letter) for letter in text if letter != "?"}
    unseen = text.count("?")
    once = len([letter for letter in counts if counts[letter] == 1])
    return (
        len(text) in (2, 4, 6, 8, 10) and 1 <= unseen <= 6 and once <= unseen and not set(text) - set("abcdefghij?")
        and max([0, *counts.values()]) <= 2
    )


@functools.lru_cache(maxsize=None)
def few_dims():
    """All dim rows over few letters with two and four places, some with six, eight and ten."""
    found = []
    for size, step, signs in ((2, 1, "aj?"), (4, 1, "abj?"), (6, 11, "cab?"), (8, 1, ""), (10, 1, "")):
        texts = ["".join(signs) for signs in itertools.product(signs, repeat=size)] if signs else drawn_texts(size)
        found += [text for text in texts if is_dim_by_counts(text)][::step]
    return found


def drawn_texts(size):
    """Some texts with so many places, letters that stand once among the unseen ones too."""
    numbers = Numbers(size)
    found = []
    while len(found) < 40:
        signs = [letter for letter in "jacdb"[:size // 2] for _ in "xx"]
        row = [signs.pop(numbers.below(len(signs))) for _ in range(size)]
        for _ in range(1 + numbers.below(6)):
            row[numbers.below(size)] = "?"
        found.append("".join(row))
    return found


@functools.lru_cache(maxsize=None)
def matchings(size):
    """All ways to put so many places in pairs."""
    if size == 0:
        return [()]
    found = []
    for other in range(size - 1):
        left = [place for place in range(size - 1) if place != other]
        for pairs in matchings(size - 2):
            found.append(((other, size - 1), *[(left[j], left[k]) for j, k in pairs]))
    return found


@functools.lru_cache(maxsize=None)
def fillings_by_pairs(dim):
    """The fillings: all ways to put the places in pairs with which what was seen goes together."""
    found = []
    for pairs in matchings(len(dim)):
        row = list(dim)
        new = [letter for letter in "abcdefghij" if letter not in dim]
        for j, k in sorted(pairs):
            seen = {dim[j], dim[k]} - {"?"}
            if len(seen) > 1:
                break
            letter = seen.pop() if seen else new.pop(0)
            row[j] = row[k] = letter
        else:
            if all([row.count(letter) == 2 for letter in row]):
                found.append("".join(row))
    return sorted(found)


def is_flat_by_corners(row):
    return bool(flat_choices(row))


def mate(row, place):
    return [other for other in range(len(row)) if row[other] == row[place] and other != place][0]


@functools.lru_cache(maxsize=None)
def looks_by_hand(rows, dim):
    """The least number of looks when these rows are left, and the places with which one can begin so."""
    if len({is_flat_by_corners(row) for row in rows}) == 1:
        return 0, ()
    told = {}
    for place in [place for place, sign in enumerate(dim) if sign == "?"]:
        lots = {}
        for row in rows:
            lots.setdefault(mate(row, place), []).append(row)
        if len(lots) > 1:
            told[place] = 1 + max([looks_by_hand(tuple(lot), dim)[0] for lot in lots.values()])
    least = min(told.values())
    return least, tuple([place for place in told if told[place] == least])
