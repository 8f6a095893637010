"""What the checker finds out about rows and lines by itself, without any of the modules whose results it checks.

Lines are passed round as a tuple of strings, a row as a tuple of itself alone, and `text` is all of them in one string.
"""

from selfcrossed.limits import MOST_LETTERS, MOST_LINES

LETTERS = "abcdefghij"


def is_integer(value):
    """Tell whether any value is an integer; True and False are none."""
    return isinstance(value, int) and not isinstance(value, bool)


def is_number(value, least, most):
    """Tell whether any value is an integer within these limits."""
    return is_integer(value) and least <= value <= most


def are_integers(value):
    """Tell whether any value is a tuple of integers."""
    return isinstance(value, tuple) and all([is_integer(each) for each in value])


def is_text_of(value, signs, size):
    """Tell whether any value is a string of so many of these signs."""
    return isinstance(value, str) and len(value) == size and all([sign in signs for sign in value])


def is_row(value):
    """Tell whether any value is a row."""
    if not isinstance(value, str) or not 1 <= len(value) <= 2 * MOST_LETTERS:
        return False
    times = [value.count(letter) for letter in LETTERS]
    return times.count(2) + times.count(0) == len(times) and sum(times) == len(value)


def are_lines(value):
    """Tell whether any value is lines."""
    if not isinstance(value, tuple) or not 1 <= len(value) <= MOST_LINES:
        return False
    if not all([isinstance(line, str) and 1 <= len(line) <= 2 * MOST_LETTERS for line in value]):
        return False
    return is_row("".join(value))


def are_sides(text, value):
    """Tell whether any value is sides of the letters in the text."""
    return is_text_of(value, "+-", len(text) // 2)


def letters_in(text):
    """List the letters in the text, ascending."""
    return [letter for letter in LETTERS if letter in text]


def places_in(text, letter):
    """List the places of the letter in the text, ascending."""
    return [place for place, sign in enumerate(text) if sign == letter]


def edges_to(lines):
    """List for each place the edge that leads to it."""
    found = []
    for line in lines:
        places = list(range(len(found), len(found) + len(line)))
        found = found + places[-1:] + places[:-1]
    return found


def half_edges(text, edges, letter):
    """List the half edges at the letter: out of its earlier place, out of its later one, into both.

    Each one is told by the element that leaves the letter along it. The edges are those that lead to the places.
    """
    earlier, later = text.find(letter), text.rfind(letter)
    return [earlier, later, -1 - edges[earlier], -1 - edges[later]]


def turn_left(onward, edges, one, other):
    """Put what is gone along behind the elements that lead to a letter so that a region is kept to the left.

    The letter's places are told first that at which the other passing goes to the left, then the other one.
    """
    # One turns left onto the other passing, along it or against it.
    onward[edges[one]] = other
    onward[-1 - one] = -1 - edges[other]
    onward[edges[other]] = -1 - edges[one]
    onward[-1 - other] = one


def onward_with(lines, sides):
    """List for each element, below 0 as an index from the end, the one behind it that keeps a region to the left."""
    text = "".join(lines)
    edges = edges_to(lines)
    onward = [0] * (2 * len(text))
    for letter, side in zip(letters_in(text), sides):
        earlier, later = text.find(letter), text.rfind(letter)
        if side == "+":
            turn_left(onward, edges, earlier, later)
        else:
            turn_left(onward, edges, later, earlier)
    return onward


def regions_of(lines, sides):
    """List the regions, ascending, each one from its least element on."""
    return closed_walks(onward_with(lines, sides))


def closed_walks(onward):
    """List the walks, ascending, by elements each of which is followed by the one that is told."""
    half = len(onward) // 2
    gone = [False] * len(onward)
    found = []
    for first in range(-half, half):
        if not gone[first]:
            walk = []
            element = first
            while not gone[element]:
                gone[element] = True
                walk.append(element)
                element = onward[element]
            found.append(tuple(walk))
    return found


def count_walks(onward):
    """Count the walks that `closed_walks` lists."""
    half = len(onward) // 2
    gone = [False] * len(onward)
    found = 0
    for first in range(-half, half):
        if not gone[first]:
            found += 1
            element = first
            while not gone[element]:
                gone[element] = True
                element = onward[element]
    return found


def parts_among(lines):
    """Count the parts of the lines."""
    parts = []
    for line in lines:
        joined = line
        others = []
        for part in parts:
            if any([letter in line for letter in part]):
                joined = joined + part
            else:
                others.append(part)
        parts = [*others, joined]
    return len(parts)


def handles_of(lines, sides):
    """Count the handles of the lines with these sides."""
    return (2 * parts_among(lines) + len(sides) - count_walks(onward_with(lines, sides))) // 2


def least_handles(row):
    """Give the least number of handles that any sides of the row have, all sides being tried until there are none."""
    places = [(row.find(letter), row.rfind(letter)) for letter in letters_in(row)]
    edges = edges_to((row,))
    onward = onward_with((row,), "+" * len(places))
    regions = count_walks(onward)
    # Mirrored sides have as many, so that the last letter can keep its side. From one choice to the next one the letter
    # is turned over that the last digit 1 of the choice's number tells, so that no choice comes twice.
    choices = 1 << (len(places) - 1)
    for number in range(1, choices):
        if regions == len(places) + 2:
            break
        index = (number & -number).bit_length() - 1
        one, other = places[index]
        places[index] = other, one
        turn_left(onward, edges, other, one)
        regions = max(regions, count_walks(onward))
    return (len(places) + 2 - regions) // 2


def are_linked(row, one, other):
    """Tell whether both letters part one another."""
    if one == other:
        return False
    j, k = places_in(row, one)
    return len([place for place in places_in(row, other) if j < place < k]) == 1


def is_number_odd(number):
    """Tell whether the number is odd."""
    return number & 1 == 1


def is_odd_letter(row, letter):
    """Tell whether oddly many letters are linked with this one of the row."""
    return is_number_odd(len([other for other in letters_in(row) if are_linked(row, letter, other)]))


def are_odd_together(row, one, other):
    """Tell whether oddly many letters are linked with both of these letters of the row."""
    linked = [each for each in letters_in(row) if are_linked(row, one, each) and are_linked(row, other, each)]
    return is_number_odd(len(linked))


def is_odd_pair(row, pair):
    """Tell whether the two letters ascend, are not linked and have oddly many letters linked with both."""
    one, other = pair[0], pair[1]
    return one < other and not are_linked(row, one, other) and are_odd_together(row, one, other)


def is_odd_round(row, text):
    """Tell whether unlike letters are linked round, oddly many of them and the next one evenly by others."""
    if len(letters_in(text)) != len(text):
        return False
    pairs = list(zip(text, text[1:] + text[:1]))
    if not all([are_linked(row, one, other) for one, other in pairs]):
        return False
    return is_number_odd(len([one for one, other in pairs if not are_odd_together(row, one, other)]))


def tells_not_flat(row, value):
    """Tell whether any value is what tells that the row is not flat."""
    if not isinstance(value, str) or not 1 <= len(value) <= MOST_LETTERS or not all([sign in row for sign in value]):
        return False
    if len(value) == 1:
        return is_odd_letter(row, value)
    return is_odd_pair(row, value) if len(value) == 2 else is_odd_round(row, value)


def rounds_of(row, turnings):
    """List the rounds, ascending, that the turnings make."""
    onward = [0] * (2 * len(row))
    edges = edges_to((row,))
    for letter, turning in zip(letters_in(row), turnings):
        out, later_out, back, later_back = half_edges(row, edges, letter)
        joined = [(out, back), (later_out, later_back)]
        if turning == "o":
            joined = [(out, later_back), (later_out, back)]
        if turning == "x":
            joined = [(out, later_out), (back, later_back)]
        for one, other in joined:
            onward[-1 - one] = other
            onward[-1 - other] = one
    # Each round is walked both ways.
    return sorted({least_way(walk) for walk in closed_walks(onward)})


def least_way(walk):
    """Give the least of all ways to begin and both ways to go round."""
    turned = tuple([-1 - element for element in reversed(walk)])
    return min([way[place:] + way[:place] for way in (walk, turned) for place in range(len(way))])


def tour_of(row, turnings):
    """Give the tour that the turnings make, None if they make several rounds."""
    found = rounds_of(row, turnings)
    if len(found) > 1:
        return None
    return "".join([row[(element + 1) % len(row)] if element >= 0 else row[-1 - element] for element in found[0]])


def leads_to(row, value, goal):
    """Tell whether any value is a triple of a place, a way and letters that leads from the row to the goal."""
    if not isinstance(value, tuple) or len(value) != 3:
        return False
    place, way, letters = value
    if not is_number(place, 0, len(row) - 1) or not is_number(way, -1, 1) or way == 0:
        return False
    own = letters_in(row)
    if not is_text_of(letters, LETTERS, len(own)):
        return False
    begun = row[place:] + row[:place]
    others = dict(zip(own, letters))
    return "".join([others[letter] for letter in begun[::way]]) == goal


def by_first_places(row):
    """Tell each place of the row by the number of letters that stand first ahead of where its letter stands first."""
    firsts = [letter for place, letter in enumerate(row) if letter not in row[:place]]
    return [firsts.index(letter) for letter in row]


def are_one_line(one, other):
    """Tell whether both rows are the same line, all ways being tried."""
    goal = by_first_places(other)
    for place in range(len(one)):
        begun = one[place:] + one[:place]
        if by_first_places(begun) == goal or by_first_places(begun[::-1]) == goal:
            return True
    return False


def without(row, gone):
    """Give the row without these letters."""
    return "".join([letter for letter in row if letter not in gone])


def is_flat_or_nothing(row):
    """Tell whether the row is flat or has no letter."""
    # No flat row has a letter that is linked with oddly many, and so has oddly many places between its own.
    return row == "" or (set(row[::2]) == set(row[1::2]) and least_handles(row) == 0)
