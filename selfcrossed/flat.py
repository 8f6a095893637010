"""Rows with sides: the regions of the drawing, its handles, and which rows are flat."""

from selfcrossed.errors import InvalidSides
from selfcrossed.links import count_in_both, linked_of
from selfcrossed.rows import check_row, letters_of
from selfcrossed.touches import sides_by_touches
from selfcrossed.walks import edges_into, first_elements, leaving, walk_from, walks_of

TURNED_OVER = {"+": "-", "-": "+"}


def regions(row, sides):
    """Give the ascending tuple of the regions of the row with these sides."""
    check_row(row)
    check_sides(row, sides)
    return tuple(regions_of(row, sides))


def handles(row, sides):
    """Give the number of handles of the row with these sides."""
    check_row(row)
    check_sides(row, sides)
    return handles_of(row, sides)


def is_flat(row):
    """Tell whether some sides of the row have no handles."""
    check_row(row)
    return is_flat_row(row)


def flat_sides(row):
    """Give the ascending tuple of all sides without handles."""
    check_row(row)
    return tuple(flat_sides_of(row))


def flat_by_links(row):
    """Tell whether the row is flat, asked by its links alone."""
    check_row(row)
    return are_links_flat(linked_of(row))


def why_not(row):
    """Give what tells by links that the row is not flat, None for a flat one."""
    check_row(row)
    return wrong_in(linked_of(row))


def is_sides(row, value):
    """Tell whether any value is a string of sides for what is known to be a row."""
    if not isinstance(value, str) or 2 * len(value) != len(row):
        return False
    return value.count("+") + value.count("-") == len(value)


def check_sides(row, sides):
    """Raise the error for what is no string of sides for the row."""
    if not is_sides(row, sides):
        raise InvalidSides(sides)


def onward_of(row, sides):
    """List for each element the one that is gone along behind it so that a region is kept to the left."""
    return onward_along(row, sides, edges_into(0, len(row)))


def onward_along(row, sides, into):
    """List what `onward_of` lists, `into` telling for each place the edge that leads to it."""
    onward = [0] * (2 * len(row))
    for letter, side in zip(letters_of(row), sides):
        out, later_out, back, later_back = leaving(row, letter, into)
        if side == "-":
            later_out, later_back = later_back, later_out
        # One comes along a half edge against the way in which one leaves by it, and goes on by the next one.
        onward[-1 - out] = later_back
        onward[-1 - later_out] = out
        onward[-1 - back] = later_out
        onward[-1 - later_back] = back
    return onward


def corners_of(row):
    """Give the choices of sides at the letters of the row, told as in `walks`."""
    return corners_along(row, edges_into(0, len(row)))


def corners_along(row, into):
    """Give what `corners_of` gives, `into` telling for each place the edge that leads to it."""
    own = letters_of(row)
    onward = {side: onward_along(row, side * len(own), into) for side in "+-"}
    choices = []
    for letter in own:
        arriving = [-1 - element for element in leaving(row, letter, into)]
        choices.append({side: [(element, onward[side][element]) for element in arriving] for side in "+-"})
    return choices


def regions_of(row, sides):
    """List the regions, ascending, of what is known to be a row with sides."""
    return walks_of(onward_of(row, sides))


def region_at(row, sides, element):
    """Give the region with this element of what is known to be a row with sides, from this element on."""
    return walk_from(onward_of(row, sides), element)


def handles_of(row, sides):
    """Give the number of handles of what is known to be a row with sides."""
    return handles_with(row, len(first_elements(onward_of(row, sides))))


def handles_with(row, number):
    """Give the number of handles of a drawing of the row with so many regions."""
    return (len(row) // 2 + 2 - number) // 2


def flat_choice(row):
    """Give sides without handles and the bunches of what is known to be a row, None if it is not flat."""
    if not are_evenly_apart(row):
        return None
    told = sides_by_touches(row)
    return told if told is not None and handles_of(row, told[0]) == 0 else None


def are_evenly_apart(row):
    """Tell whether evenly many places are between those of each letter, so that it is linked with evenly many."""
    return set(row[::2]) == set(row[1::2])


def flat_sides_of(row):
    """List all sides without handles, ascending, of what is known to be a row."""
    told = flat_choice(row)
    if told is None:
        return []
    sides, lots = told
    own = letters_of(row)
    # Sides are told by a number here, whose binary digits are 1 where they have a minus, so that it ascends with them.
    bits = {letter: 1 << index for index, letter in enumerate(reversed(own))}
    found = [sum([bits[letter] for letter, side in zip(own, sides) if side == "-"])]
    for lot in lots:
        turned = sum([bits[letter] for letter in lot])
        found = found + [number ^ turned for number in found]
    return [sides_told(number, len(own)) for number in sorted(found)]


def sides_told(number, size):
    """Write so many sides that are told by the binary digits of the number."""
    digits = f"{number:010b}"
    return digits[-size:].replace("0", "+").replace("1", "-")


def is_flat_row(row):
    """Tell whether what is known to be a row is flat."""
    return flat_choice(row) is not None


def are_links_flat(linked):
    """Tell whether the rules for the links of flat rows hold for these."""
    return wrong_in(linked) is None


def wrong_in(linked):
    """Give what breaks the rules for the links of flat rows, None if nothing does."""
    letter = first_odd_letter(linked)
    if letter is not None:
        return letter
    pair = first_odd_pair(linked)
    if pair is not None:
        return pair
    return odd_round(linked)


def first_odd_letter(linked):
    """Give the first letter that is linked with oddly many, None if there is none."""
    for letter in linked:
        if len(linked[letter]) & 1 == 1:
            return letter
    return None


def first_odd_pair(linked):
    """Give the first two letters, not linked, that have oddly many letters linked with both, None if there are none."""
    for letter in linked:
        for other in linked:
            if letter < other and other not in linked[letter]:
                if count_in_both(linked[letter], linked[other]) & 1 == 1:
                    return letter + other
    return None


def odd_round(linked):
    """Give a round of linked letters that tells that they cannot be parted in two lots, None if they can.

    Two linked letters belong to unlike lots if evenly many letters are linked with both, otherwise to one lot.
    """
    lots = {}
    back = {}
    for start in linked:
        if start in lots:
            continue
        lots[start] = 0
        back[start] = ""
        reached = [start]
        index = 0
        while index < len(reached):
            letter = reached[index]
            index += 1
            for other in linked[letter]:
                lot = (lots[letter] + 1 + count_in_both(linked[letter], linked[other])) & 1
                if other not in lots:
                    lots[other] = lot
                    back[other] = back[letter] + letter
                    reached.append(other)
                elif lots[other] != lot:
                    return round_of(back[letter] + letter, back[other] + other)
    return None


def round_of(one, other):
    """Give the round that two ways from one start make, whose last letters are linked."""
    shared = 0
    while one[:shared + 1] == other[:shared + 1]:
        shared += 1
    # The last letter of the way shared belongs to the round, once.
    return one[shared - 1:] + other[shared:][::-1]
