"""Letters taken out of rows and put into them: which rows are flat then."""

from itertools import combinations

from selfcrossed.drawings import check_drawing
from selfcrossed.errors import TooMany
from selfcrossed.flat import are_links_flat, is_flat_row
from selfcrossed.handles import least_of
from selfcrossed.limits import MOST_LETTERS, MOST_SIDES
from selfcrossed.links import linked_of
from selfcrossed.rows import ALPHABET, check_row, check_size, least_ways, letters_of, plain_of


def fewest_out(row):
    """Give the first string of as few letters as can be without which the row is flat or has no letter."""
    check_row(row)
    check_size(row, MOST_SIDES)
    return fewest_out_of(row)


def flat_parts(row):
    """Give the strings of letters whose row alone is flat, while that with further ones is not, ascending."""
    check_row(row)
    check_size(row, MOST_SIDES)
    found = []
    # The longer ones come first, so that a lot belongs to none that is found if none with further letters is flat.
    for lot in flat_lots(row)[::-1]:
        if not any([are_all_in(lot, other) for other in found]):
            found.append(lot)
    return tuple(sorted(found))


def count_flat_parts(row):
    """Count the lots of letters, one at least, of which the row alone is flat."""
    check_row(row)
    check_size(row, MOST_SIDES)
    return len(flat_lots(row))


def handles_without(row):
    """Give for each letter the least number of handles of the row without it."""
    check_row(row)
    check_size(row, MOST_SIDES)
    if len(row) == 2:
        return (0,)
    return tuple([least_of(row.replace(letter, "")) for letter in letters_of(row)])


def exchanges(row):
    """Give the places whose letter, exchanged with the next one, makes the row a flat one."""
    check_row(row)
    return tuple([place for place in range(len(row)) if is_flat_exchanged(row, place)])


def ways_in(drawing):
    """Give the pairs of edges that a new letter can join while all sides stay what they are."""
    check_drawing(drawing)
    if drawing.size == MOST_LETTERS:
        raise TooMany(MOST_LETTERS)
    # A letter linked with the new one would be linked with oddly many then. So the new one is to be a bunch by itself,
    # and the others keep their sides.
    return tuple(pairs_around(drawing.row, ""))


def crossed_once(row):
    """Give the plain flat rows from which one gets the line by taking out one letter, ascending."""
    check_row(row)
    if len(row) >= 2 * MOST_SIDES:
        raise TooMany(MOST_SIDES)
    least = plain_of(row)
    linked = linked_of(least)
    # The new letter is to be linked just with those that are linked with oddly many. So all rows that are made have the
    # same links, and all of them are flat or none is.
    pairs = pairs_around(least, [letter for letter in linked if len(linked[letter]) & 1 == 1])
    if not pairs or not is_flat_row(with_letter(least, pairs[0])):
        return ()
    return tuple(sorted({plain_of(with_letter(least, pair)) for pair in unlike_pairs(least, pairs)}))


def fewest_out_of(row):
    """Give what `fewest_out` tells of what is known to be a row."""
    linked = linked_of(row)
    # Without all letters there is nothing left that is not flat, so that one of the lots is the one.
    return [lot for lot in lots_of(row) if are_links_flat(links_without(linked, lot))][0]


def lots_of(row):
    """List all lots of letters of the row, as ascending strings, shorter ones ahead of longer ones."""
    own = letters_of(row)
    return ["".join(lot) for number in range(len(own) + 1) for lot in combinations(own, number)]


def flat_lots(row):
    """List the lots of letters, one at least, of which the row alone is flat, shorter ones ahead of longer ones."""
    linked = linked_of(row)
    own = letters_of(row)
    found = []
    for lot in lots_of(row)[1:]:
        gone = "".join([letter for letter in own if letter not in lot])
        if are_links_flat(links_without(linked, gone)):
            found.append(lot)
    return found


def links_without(linked, gone):
    """Give the letters linked with each letter when these letters are gone."""
    # Two letters that are left part one another as before.
    return {
        letter: "".join([other for other in linked[letter] if other not in gone])
        for letter in linked if letter not in gone
    }


def are_all_in(letters, others):
    """Tell whether all these letters are among the others."""
    return all([letter in others for letter in letters])


def is_flat_exchanged(row, place):
    """Tell whether the letters at this place and the next one are unlike, and make a flat row when exchanged."""
    following = (place + 1) % len(row)
    if row[place] == row[following]:
        return False
    signs = list(row)
    signs[place], signs[following] = row[following], row[place]
    return is_flat_row("".join(signs))


def pairs_around(row, letters):
    """List the pairs of edges, the first one at most the second one, ascending, between which just these stand once."""
    bits = {letter: 1 << index for index, letter in enumerate(letters_of(row))}
    goal = sum([bits[letter] for letter in letters])
    size = len(row)
    # For each edge which letters stand just once up to it.
    once = [bits[row[0]]]
    for letter in row[1:]:
        once.append(once[-1] ^ bits[letter])
    return [(one, other) for one in range(size) for other in range(one, size) if once[one] ^ once[other] == goal]


def unlike_pairs(least, pairs):
    """List those of the pairs of edges of a plain row that no way of the row to itself makes one listed before."""
    ways = least_ways(least)[1]
    known = {}
    found = []
    for pair in pairs:
        if pair not in known:
            found.append(pair)
            for way in ways:
                one, other = [edge_begun(edge, len(least), way) for edge in pair]
                known[(min(one, other), max(one, other))] = True
    return found


def edge_begun(edge, size, way):
    """Give what the edge becomes when a row of so many places is begun and read so."""
    start, turn = way
    # Read backwards, an edge is told from behind.
    return ((size - 2 - edge if turn == 1 else edge) - start) % size


def first_unused(row):
    """Give the first letter that the row does not have."""
    return [letter for letter in ALPHABET if letter not in row][0]


def with_letter(row, pair):
    """Give the row with a new letter on both edges, twice if they are the same."""
    one, other = pair
    new = first_unused(row)
    return row[:one + 1] + new + row[one + 1:other + 1] + new + row[other + 1:]
