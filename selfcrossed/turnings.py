"""Turnings: how the line is left or turned at its letters, and the rounds that it makes then."""

from selfcrossed.errors import InvalidTurnings
from selfcrossed.limits import MOST_SIDES
from selfcrossed.links import rank_of, table_of
from selfcrossed.rows import check_row, check_size, letters_of, plain_of
from selfcrossed.sweeps import counted_walks
from selfcrossed.walks import edge_of, edges_into, end_of, leaving, onward_by, walk_from, walks_of
from selfcrossed.webs import by_turning, ends_of, namings_of, plain_tours_of, straight_ends

MOST_TOURED = 6
ALL_TURNINGS = "=ox"
# For out of the earlier place, out of the later one, back out of both, in this order: which of these it is joined to.
JOINED = {"=": (2, 3, 0, 1), "o": (3, 2, 1, 0), "x": (1, 0, 3, 2)}


def count_rounds(row, turnings):
    """Count the rounds that the turnings make."""
    check_row(row)
    check_turnings(row, turnings)
    return len(rounds_of(row, turnings))


def rounds(row, turnings):
    """Give the ascending tuple of the rounds that the turnings make."""
    check_row(row)
    check_turnings(row, turnings)
    return tuple(rounds_of(row, turnings))


def rounds_by_table(row, turnings):
    """Count the rounds that the turnings make, by the table of links alone."""
    check_row(row)
    check_turnings(row, turnings)
    rows = turned_table(row, turnings)
    return 1 + len(rows) - rank_of(rows)


def tour(row, turnings):
    """Give the tour that the turnings make, None if there is not just one round."""
    check_row(row)
    check_turnings(row, turnings)
    return tour_of(row, turnings)


def tours(row):
    """Give the ascending tuple of the plain rows of all tours of the row."""
    check_row(row)
    check_size(row, MOST_TOURED)
    return tuple(plain_tours_of(row))


def count_tours(row):
    """Count the turnings that make one round."""
    check_row(row)
    check_size(row, MOST_SIDES)
    return rounds_counted(row, ALL_TURNINGS)[1][0]


def tours_along(row):
    """Count the turnings without `x` that make one round."""
    check_row(row)
    check_size(row, MOST_SIDES)
    return rounds_counted(row, "=o")[1][0]


def one_web(one, other):
    """Tell whether a tour of the one row is the same line as the other one."""
    check_web(one, other)
    return are_one_web(one, other)


def turnings_between(one, other):
    """Give turnings of the one row whose tour is the same line as the other one, None if there are none."""
    check_web(one, other)
    return turnings_to(one, other)


def all_against(row):
    """Count the rounds if the line is turned against at all letters."""
    check_row(row)
    return len(rounds_of(row, "x" * (len(row) // 2)))


def all_along(row):
    """Count the rounds if the line is turned along at all letters."""
    check_row(row)
    return len(rounds_of(row, "o" * (len(row) // 2)))


def check_turnings(row, turnings):
    """Raise the error for what is no string of turnings for the row."""
    if not isinstance(turnings, str) or 2 * len(turnings) != len(row):
        raise InvalidTurnings(turnings)
    if not all([sign in ALL_TURNINGS for sign in turnings]):
        raise InvalidTurnings(turnings)


def check_web(one, other):
    """Raise the error for what is no pair of rows that can be asked for one web."""
    check_row(one)
    check_row(other)
    check_size(one, MOST_TOURED)
    check_size(other, MOST_TOURED)


def are_one_web(one, other):
    """Tell whether both, known to be rows, have one web."""
    return namings_of(one, other) != []


def turnings_to(one, other):
    """Give what `turnings_between` tells of what are known to be rows."""
    all_namings = namings_of(one, other)
    if not all_namings:
        return None
    joints, goal, straight = joints_of(one), plain_of(other), straight_ends(other)
    own = letters_of(one)
    ends = ends_of(one)
    # Turnings begun so as to fit at each letter, each with the namings with which they do; the last ones come first.
    waiting = [("", all_namings)]
    while waiting:
        turnings, namings = waiting.pop()
        index = len(turnings)
        if index == len(own):
            tour = tour_along(one, onward_by(joints, turnings))
            if tour is not None and plain_of(tour) == goal:
                return turnings
        else:
            fitting = by_turning(namings, index, [own.find(end) for end in ends[own[index]]], straight)
            waiting.extend([(turnings + sign, fitting[sign]) for sign in "xo=" if fitting[sign]])
    return None


def joints_of(row):
    """Give the choices of turnings at the letters of the row, told as in `walks`."""
    into = edges_into(0, len(row))
    choices = []
    for letter in letters_of(row):
        ways_out = leaving(row, letter, into)
        choices.append({
            turning: [(-1 - ways_out[index], ways_out[JOINED[turning][index]]) for index in range(4)]
            for turning in ALL_TURNINGS
        })
    return choices


def rounds_of(row, turnings):
    """List the rounds, ascending, that what is known to be turnings makes."""
    return one_way_each(walks_of(onward_by(joints_of(row), turnings)))


def one_way_each(walks):
    """List the lesser way of each round, of walks that go along all rounds both ways."""
    # The lesser way is the one that goes backwards along the round's last edge, and so begins with it.
    return [walk for walk in walks if walk[0] == -1 - max([edge_of(element) for element in walk])]


def turned_table(row, turnings):
    """Give the table of links of the letters that are not left straight, with 1 for those turned against themselves."""
    rows = table_of(row)
    turned = [index for index, turning in enumerate(turnings) if turning != "="]
    return [
        tuple([1 if index == other and turnings[index] == "x" else rows[index][other] for other in turned])
        for index in turned
    ]


def tour_of(row, turnings):
    """Give the tour that what is known to be turnings makes, None if there is not just one round."""
    return tour_along(row, onward_by(joints_of(row), turnings))


def tour_along(row, onward):
    """Give the tour along which each element is followed by the one told, None if there is not just one round."""
    # The least round begins with the last edge backwards, and the only one goes along all edges.
    walk = walk_from(onward, -len(row))
    if len(walk) < len(row):
        return None
    return "".join([row[end_of(element, len(row))] for element in walk])


def rounds_counted(row, kinds):
    """Give for each number of rounds how many turnings of these kinds make so many, and the first of these."""
    choices = [{kind: pairs_of[kind] for kind in kinds} for pairs_of in joints_of(row)]
    counted = counted_walks(choices)
    # Each round is walked both ways.
    return {number // 2: counted[number] for number in counted}
