"""Links: which letters of a row stand between one another."""

from itertools import permutations

from selfcrossed.errors import TooMany
from selfcrossed.limits import MOST_LETTERS, MOST_LISTED
from selfcrossed.rows import (
    ALPHABET, check_letter, check_place, check_row, check_size, first_named, letters_of, lines_of,
)


def are_linked(row, letter, other):
    """Tell whether both letters are linked."""
    check_row(row)
    check_letter(row, letter)
    check_letter(row, other)
    return stretch_of(row, letter).count(other) == 1


def links(row):
    """Give the pairs of linked letters as strings, ascending."""
    check_row(row)
    linked = linked_of(row)
    return tuple([letter + other for letter in linked for other in linked[letter] if letter < other])


def bunches(row):
    """Give the ascending tuple of the bunches, ascending strings."""
    check_row(row)
    linked = linked_of(row)
    found = []
    for letter in linked:
        if not any([letter in bunch for bunch in found]):
            found.append(bunch_of(linked, letter))
    return tuple(found)


def linked_with(row, letter):
    """Give the letters that are linked with the letter, an ascending string."""
    check_row(row)
    check_letter(row, letter)
    return linked_of(row)[letter]


def between(row, letter):
    """Give what stands behind the letter's earlier place and ahead of its later one."""
    check_row(row)
    check_letter(row, letter)
    return stretch_of(row, letter)


def put_in(row, place, other):
    """Give the row that has the other row, with letters of its own, ahead of the letter at this place."""
    check_row(row)
    check_place(row, place)
    check_row(other)
    if len(row) + len(other) > 2 * MOST_LETTERS:
        raise TooMany(MOST_LETTERS)
    unused = [letter for letter in ALPHABET if letter not in row]
    new = [unused[ALPHABET.find(letter)] for letter in first_named(other)]
    return row[:place] + "".join(new) + row[place:]


def hang_alike(one, other):
    """Tell whether some way to give each letter of the one a letter of the other gives linked pairs linked ones."""
    check_row(one)
    check_row(other)
    check_size(one, MOST_LISTED)
    check_size(other, MOST_LISTED)
    return have_like_tables(table_of(one), table_of(other))


def alike_rows(row):
    """Give the ascending tuple of all plain rows that hang alike with the row."""
    check_row(row)
    check_size(row, MOST_LISTED)
    own = table_of(row)
    return tuple([line for line in lines_of(len(row) // 2) if have_like_tables(own, table_of(line))])


def table(row):
    """Give, for each letter, a tuple of 1 for each letter that is linked with it and 0 for each other one."""
    check_row(row)
    return table_of(row)


def rank(row):
    """Count the rows of the table that are left when those that are sums of others are struck."""
    check_row(row)
    return rank_of(table_of(row))


def stretch_of(row, letter):
    """Give what stands between both places of what is known to be a letter of the row."""
    return row[row.find(letter) + 1:row.rfind(letter)]


def linked_of(row):
    """Give a dict of the letters linked with each letter of what is known to be a row, all of it ascending."""
    own = letters_of(row)
    linked = {}
    for letter in own:
        stretch = stretch_of(row, letter)
        linked[letter] = "".join([other for other in own if stretch.count(other) == 1])
    return linked


def bunch_of(linked, letter):
    """Give the bunch of the letter."""
    reached = [letter]
    # What is reached grows while it is gone through, so that it is gone through by an index.
    index = 0
    while index < len(reached):
        reached.extend([other for other in linked[reached[index]] if other not in reached])
        index += 1
    return "".join(sorted(reached))


def count_in_both(one, other):
    """Count the letters that both strings have."""
    return len([letter for letter in one if letter in other])


def table_of(row):
    """Give the table of links of what is known to be a row."""
    linked = linked_of(row)
    return tuple([tuple([1 if other in linked[letter] else 0 for other in linked]) for letter in linked])


def have_like_tables(one, other):
    """Tell whether the one table becomes the other one by giving its letters another order."""
    if len(one) != len(other):
        return False
    size = len(one)
    for order in permutations(range(size)):
        if all([one[j][k] == other[order[j]][order[k]] for j in range(size) for k in range(size)]):
            return True
    return False


def rank_of(rows):
    """Count the rows of ones and noughts that are left when those that are sums of others are struck."""
    kept = []
    for row in rows:
        left = row
        for other in kept:
            # Where a kept row has its first 1, those kept behind it have 0, so that it is not brought back by them.
            if left[other.index(1)] == 1:
                left = tuple([one ^ two for one, two in zip(left, other)])
        if 1 in left:
            kept.append(left)
    return len(kept)
