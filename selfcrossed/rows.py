"""Rows: strings in which each letter stands twice, read round."""

from selfcrossed.errors import (
    InvalidIndex, InvalidLetter, InvalidLetters, InvalidNumber, InvalidPlace, InvalidRow, TooMany,
)
from selfcrossed.integers import is_from_to
from selfcrossed.limits import MOST_LETTERS, MOST_LISTED

ALPHABET = "abcdefghij"


def is_row(value):
    """Tell whether any value is a row."""
    if not isinstance(value, str) or not 2 <= len(value) <= 2 * MOST_LETTERS:
        return False
    counts = [value.count(letter) for letter in ALPHABET]
    # Together they are all signs only if no other sign stands in it.
    return sum(counts) == len(value) and counts.count(2) + counts.count(0) == len(counts)


def letters(row):
    """Give the letters of the row, ascending, as a string."""
    check_row(row)
    return letters_of(row)


def places(row, letter):
    """Give the pair of the letter's places, the earlier one first."""
    check_row(row)
    check_letter(row, letter)
    return row.find(letter), row.rfind(letter)


def begun(row, place):
    """Give the row that begins at this place."""
    check_row(row)
    check_place(row, place)
    return begun_from(row, place)


def backwards(row):
    """Give the row read backwards."""
    check_row(row)
    return row[::-1]


def named(row, letters):
    """Give the row with other letters, the k-th one of its own becoming the k-th one of these."""
    check_row(row)
    own = letters_of(row)
    check_other_letters(letters, len(own))
    others = dict(zip(own, letters))
    return "".join([others[letter] for letter in row])


def plain(row):
    """Give the least row among those that are the same line."""
    check_row(row)
    return plain_of(row)


def is_same(one, other):
    """Tell whether both rows are the same line."""
    check_row(one)
    check_row(other)
    return plain_of(one) == plain_of(other)


def ways_to_itself(row):
    """Count the ways to begin and to go that give the row but for other letters."""
    check_row(row)
    # As many ways lead to each row that any way leads to.
    return len(least_ways(row)[1])


def count_rows(number):
    """Count the rows with so many letters, these coming first in the order of the alphabet."""
    check_number(number, MOST_LETTERS)
    return count_ends(0, number)


def nth_row(number, index):
    """Give the row with this index among those that `count_rows` counts, ascending."""
    check_number(number, MOST_LETTERS)
    if not is_from_to(index, 0, count_ends(0, number) - 1):
        raise InvalidIndex(index)
    return row_at(number, index)


def lines_of(number):
    """Give the ascending tuple of all plain rows with so many letters."""
    check_number(number, MOST_LISTED)
    return tuple([row for row in all_rows(number) if is_begun_plain(row) and plain_of(row) == row])


def check_row(row):
    """Raise the error for what is no row."""
    if not is_row(row):
        raise InvalidRow(row)


def check_letter(row, letter):
    """Raise the error for what is no letter of the row."""
    # The length is asked, too, as Python finds also longer strings and the empty one in a row.
    if not isinstance(letter, str) or len(letter) != 1 or letter not in row:
        raise InvalidLetter(letter)


def check_place(row, place):
    """Raise the error for what is no place of the row."""
    if not is_from_to(place, 0, len(row) - 1):
        raise InvalidPlace(place)


def check_number(number, most):
    """Raise the error for what is no number of letters from one to the most."""
    if not is_from_to(number, 1, most):
        raise InvalidNumber(number)


def check_size(row, most):
    """Raise the error for what is a row of more than the most letters."""
    if len(row) > 2 * most:
        raise TooMany(most)


def check_other_letters(others, number):
    """Raise the error for what is no string of so many unlike letters of the alphabet."""
    if not isinstance(others, str) or len(others) != number:
        raise InvalidLetters(None)
    for index, sign in enumerate(others):
        if sign not in ALPHABET or sign in others[:index]:
            raise InvalidLetters(index)


def letters_of(row):
    """Give the letters of what is known to be a row, ascending."""
    return "".join(sorted(set(row)))


def begun_from(row, place):
    """Begin what is known to be a row at this place."""
    return row[place:] + row[:place]


def first_named(row):
    """Give the row other letters, so that they come first in the order of the alphabet."""
    # A dict keeps the order in which the letters first stand.
    others = dict(zip({letter: True for letter in row}, ALPHABET))
    return "".join([others[letter] for letter in row])


def plain_of(row):
    """Give the plain row of what is known to be a row."""
    return least_ways(row)[0]


def is_begun_plain(row):
    """Tell whether no letter comes again sooner than the first one, as in plain rows."""
    return row.rfind(row[0]) == min(distances_back(row))


def least_ways(row):
    """Give the plain row and the ways to begin and to go that lead to it.

    Each way is told by the place at which one begins and by 0; if the row is read backwards, by the place of the row
    read so and by 1.
    """
    ways = short_ways(row)
    least = min([told for told, _, _ in ways])
    found = [(start, turn) for told, start, turn in ways if told == least]
    start, turn = found[0]
    # Of all namings of one way, the one by `first_named` is the least.
    return first_named(begun_from(row[::-1] if turn == 1 else row, start)), found


def short_ways(row):
    """List the ways on which the first letter comes again soonest, each one behind what tells its row.

    A row is told by a number for each place: by how many places its letter stands ahead of it, below 0, and by 0 where
    its letter is new. Rows named by `first_named` ascend as what tells them does: where two of them are unlike for the
    first time, a letter is the less the further ahead it stands, and a new one is greater than all others. So the least
    ones are among these ways, as they have the fewest new letters ahead of the first one that comes again. Up to that
    one these ways are alike, so that they are told from behind it on.
    """
    size = len(row)
    backs = distances_back(row)
    nearest = min(backs)
    behind = nearest + 1
    found = []
    for turn, distances in enumerate((backs, [size - back for back in backs[::-1]])):
        twice = distances + distances
        for place, distance in enumerate(distances):
            if distance == nearest:
                start = (place - nearest) % size
                way = twice[start + behind:start + size]
                told = [-back if back <= index else 0 for index, back in enumerate(way, start=behind)]
                found.append((told, start, turn))
    return found


def distances_back(row):
    """List for each place by how many places one must go back round the row to the other place of its letter."""
    first = {}
    found = [0] * len(row)
    for place, letter in enumerate(row):
        if letter in first:
            found[place] = place - first[letter]
            found[first[letter]] = len(row) - found[place]
        else:
            first[letter] = place
    return found


def count_ends(waiting, unused):
    """Count the ways to end a row in which so many letters wait for their second place and so many are unused."""
    ways = 1
    # The waiting letters take any of the places left, one after the other.
    for free in range(2 * unused + 1, 2 * unused + waiting + 1):
        ways = ways * free
    # Then the letter at the first free place takes any of the others with it, and so on.
    for mates in range(1, 2 * unused, 2):
        ways = ways * mates
    return ways


def all_rows(number):
    """List all rows with so many letters, these coming first in the order of the alphabet, ascending."""
    # Each one as far as it is built, with the letters that wait for their second place.
    made = [("", "")]
    for _ in range(2 * number):
        following = []
        for row, waiting in made:
            following.extend([(row + letter, waiting.replace(letter, "")) for letter in waiting])
            used = (len(row) + len(waiting)) // 2
            if used < number:
                following.append((row + ALPHABET[used], waiting + ALPHABET[used]))
        made = following
    return [row for row, _ in made]


def row_at(number, index):
    """Build the row with this index, the index being known to be right."""
    row = []
    waiting = []
    ahead = index
    for _ in range(2 * number):
        used = (len(row) + len(waiting)) // 2
        # A waiting letter comes ahead of a new one, and each leaves as many ways to go on.
        each = count_ends(len(waiting) - 1, number - used) if waiting else 0
        if ahead < each * len(waiting):
            letter = waiting.pop(ahead // each)
            ahead = ahead % each
        else:
            ahead = ahead - each * len(waiting)
            letter = ALPHABET[used]
            waiting.append(letter)
        row.append(letter)
    return "".join(row)
