"""Several lines that cross themselves and one another."""

from selfcrossed.errors import InvalidIndex, InvalidLetter, InvalidLines, NoMove, TooMany
from selfcrossed.flat import check_sides, corners_along, onward_along
from selfcrossed.integers import is_from_to
from selfcrossed.limits import MOST_LINES, MOST_SIDES
from selfcrossed.links import count_in_both, stretch_of
from selfcrossed.rows import ALPHABET, check_letter, check_size, letters_of
from selfcrossed.strings import all_strings
from selfcrossed.sweeps import counted_walks
from selfcrossed.walks import edges_into, first_elements


def lines_handles(lines, sides):
    """Give the number of handles of the lines with these sides."""
    check_lines(lines)
    check_sides("".join(lines), sides)
    return handles_of_lines(lines, sides)


def least_lines_handles(lines):
    """Give the least number of handles that sides of the lines have."""
    check_few_lines(lines)
    return least_of_lines(lines)


def are_flat(lines):
    """Tell whether some sides of the lines have no handles."""
    check_few_lines(lines)
    return least_of_lines(lines) == 0


def flat_lines_sides(lines):
    """Give the ascending tuple of all sides without handles."""
    check_few_lines(lines)
    return tuple(flat_sides_of_lines(lines))


def shared(lines, first, second):
    """Give the letters that stand in both of two lines, ascending."""
    check_lines(lines)
    check_index(lines, first)
    check_index(lines, second)
    if first == second:
        raise InvalidIndex(second)
    return shared_by(lines[first], lines[second])


def are_even(lines):
    """Tell whether the lines share evenly many letters, and evenly many part each letter from itself."""
    check_lines(lines)
    many = len(lines)
    pairs = [(one, other) for one in range(many) for other in range(one + 1, many)]
    if any([len(shared_by(lines[one], lines[other])) & 1 == 1 for one, other in pairs]):
        return False
    stretches = [stretch_of(line, letter) for line in lines for letter in line if line.count(letter) == 2]
    return not any([count_once(stretch) & 1 == 1 for stretch in stretches])


def joined(lines, letter):
    """Give the lines with the two that cross at the letter made one there."""
    check_lines(lines)
    check_letter("".join(lines), letter)
    holders = holders_of(lines, letter)
    if len(holders) == 1:
        raise InvalidLetter(letter)
    first, second = holders
    ahead, behind = lines[first].split(letter)
    ahead_other, behind_other = lines[second].split(letter)
    new = ahead + behind_other + ahead_other + behind
    if not new:
        raise NoMove()
    return lines[:first] + (new,) + lines[first + 1:second] + lines[second + 1:]


def parted(lines, letter):
    """Give the lines with the one that crosses itself at the letter made two there."""
    check_lines(lines)
    check_letter("".join(lines), letter)
    holders = holders_of(lines, letter)
    if len(holders) == 2:
        raise InvalidLetter(letter)
    index = holders[0]
    ahead, inner, behind = lines[index].split(letter)
    pieces = [piece for piece in (ahead + behind, inner) if piece]
    found = (*lines[:index], *pieces, *lines[index + 1:])
    if len(found) > MOST_LINES:
        raise TooMany(MOST_LINES)
    if not found:
        raise NoMove()
    return found


def plain_lines(lines):
    """Give the least tuple, ascending, of lines that are the same."""
    check_lines(lines)
    return plain_of_lines(lines)


def are_same_lines(one, other):
    """Tell whether both are the same lines."""
    check_lines(one)
    check_lines(other)
    return plain_of_lines(one) == plain_of_lines(other)


def check_lines(lines):
    """Raise the error for what are no lines."""
    if not isinstance(lines, tuple) or not lines:
        raise InvalidLines(None)
    ahead = ""
    for index, line in enumerate(lines):
        if index >= MOST_LINES or not isinstance(line, str) or not line:
            raise InvalidLines(index)
        for sign in line:
            if sign not in ALPHABET or ahead.count(sign) == 2:
                raise InvalidLines(index)
            ahead = ahead + sign
    if any([ahead.count(letter) == 1 for letter in ahead]):
        raise InvalidLines(None)


def check_few_lines(lines):
    """Raise the error for what are no lines of at most eight letters."""
    check_lines(lines)
    check_size("".join(lines), MOST_SIDES)


def check_index(lines, index):
    """Raise the error for what is no index of a line."""
    if not is_from_to(index, 0, len(lines) - 1):
        raise InvalidIndex(index)


def holders_of(lines, letter):
    """List the indexes of the lines in which the letter stands."""
    return [index for index, line in enumerate(lines) if letter in line]


def shared_by(one, other):
    """Give the letters that stand in both lines, ascending."""
    return "".join([letter for letter in letters_of(one) if letter in other])


def count_once(stretch):
    """Count the letters that stand just once in the stretch."""
    return len([letter for letter in stretch if stretch.count(letter) == 1])


def count_parts(lines):
    """Count the parts into which the lines fall that share letters, directly or by others."""
    parts = []
    for line in lines:
        touched = [part for part in parts if count_in_both(part, line) > 0]
        parts = [part for part in parts if count_in_both(part, line) == 0] + ["".join(touched) + line]
    return len(parts)


def edges_into_places(lines):
    """List for each place the edge that leads to it."""
    found = []
    for line in lines:
        found = found + edges_into(len(found), len(line))
    return found


def handles_of_lines(lines, sides):
    """Give the number of handles of what is known to be lines with sides."""
    onward = onward_along("".join(lines), sides, edges_into_places(lines))
    return handles_with(lines, len(first_elements(onward)))


def handles_with(lines, number):
    """Give the number of handles of a drawing of the lines with so many regions."""
    return (2 * count_parts(lines) + len("".join(lines)) // 2 - number) // 2


def least_of_lines(lines):
    """Give the least number of handles of what is known to be lines."""
    corners = corners_along("".join(lines), edges_into_places(lines))
    return handles_with(lines, max(counted_walks(corners)))


def flat_sides_of_lines(lines):
    """List all sides without handles, ascending, of what is known to be lines."""
    if least_of_lines(lines) > 0:
        return []
    sides_of_all = all_strings("+-", len("".join(lines)) // 2)
    return [sides for sides in sides_of_all if handles_of_lines(lines, sides) == 0]


def plain_of_lines(lines):
    """Give the plain lines of what is known to be lines."""
    # The least of all tuples is ascending, as otherwise its strings in another order would be less. So the least
    # first string is found, then the least second one behind each way to get it, and so on.
    found = []
    reached = [("", tuple(range(len(lines))))]
    for _ in lines:
        told = next_lines(lines, reached)
        least = min(told)
        found.append(least)
        reached = list(told[least])
    return tuple(found)


def next_lines(lines, reached):
    """Give a dict of the strings that can come next, each with a dict of what is known and left behind it."""
    told = {}
    for known, left in reached:
        for index in left:
            others = tuple([other for other in left if other != index])
            for way in ways_round_line(lines[index]):
                line, letters = named_behind(way, known)
                if line not in told:
                    told[line] = {}
                told[line][(letters, others)] = True
    return told


def ways_round_line(line):
    """List what all ways to begin and to go make of one line."""
    ways = [line[place:] + line[:place] for place in range(len(line))]
    return ways + [way[::-1] for way in ways]


def named_behind(line, known):
    """Give the line with letters by their order, these being known ahead of it, and all that are known then."""
    for letter in line:
        if letter not in known:
            known = known + letter
    return "".join([ALPHABET[known.find(letter)] for letter in line]), known
