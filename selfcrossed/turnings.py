"""Turnings: how the line is left or turned at its letters, and the rounds that it makes then."""

from selfcrossed.errors import InvalidTurnings
from selfcrossed.limits import MOST_SIDES
from selfcrossed.links import rank_of, table_of
from selfcrossed.rows import check_row, check_size, letters_of, plain_of
from selfcrossed.strings import all_strings
from selfcrossed.walks import edge_of, edges_into, end_of, leaving, walks_of

MOST_TOURED = 6
ALL_TURNINGS = "=ox"
# For out of the earlier place, out of the later one, back out of both, in this order: which of these it is joined to.
JOINED = {"=": (2, 3, 0, 1), "o": (3, 2, 1, 0), "x": (1, 0, 3, 2)}


def count_rounds(row, turnings):
    """Count the rounds that the turnings make."""
    check_row(row)
    check_turnings(row, turnings)
    return len(rounds_of(row, turnings))


def rounds(row, turnings):
    """Give the ascending tuple of the rounds that the turnings make."""
    check_row(row)
    check_turnings(row, turnings)
    return tuple(rounds_of(row, turnings))


def rounds_by_table(row, turnings):
    """Count the rounds that the turnings make, by the table of links alone."""
    check_row(row)
    check_turnings(row, turnings)
    rows = turned_table(row, turnings)
    return 1 + len(rows) - rank_of(rows)


def tour(row, turnings):
    """Give the tour that the turnings make, None if there is not just one round."""
    check_row(row)
    check_turnings(row, turnings)
    return tour_of(row, turnings)


def tours(row):
    """Give the ascending tuple of the plain rows of all tours of the row."""
    check_row(row)
    check_size(row, MOST_TOURED)
    return tuple(plain_tours_of(row))


def count_tours(row):
    """Count the turnings that make one round."""
    check_row(row)
    check_size(row, MOST_SIDES)
    return counts_of_rounds(row, ALL_TURNINGS).count(1)


def tours_along(row):
    """Count the turnings without `x` that make one round."""
    check_row(row)
    check_size(row, MOST_SIDES)
    return counts_of_rounds(row, "=o").count(1)


def one_web(one, other):
    """Tell whether a tour of the one row is the same line as the other one."""
    check_web(one, other)
    return are_one_web(one, other)


def turnings_between(one, other):
    """Give turnings of the one row whose tour is the same line as the other one, None if there are none."""
    check_web(one, other)
    return turnings_to(one, other)


def all_against(row):
    """Count the rounds if the line is turned against at all letters."""
    check_row(row)
    return len(rounds_of(row, "x" * (len(row) // 2)))


def all_along(row):
    """Count the rounds if the line is turned along at all letters."""
    check_row(row)
    return len(rounds_of(row, "o" * (len(row) // 2)))


def check_turnings(row, turnings):
    """Raise the error for what is no string of turnings for the row."""
    if not isinstance(turnings, str) or 2 * len(turnings) != len(row):
        raise InvalidTurnings(turnings)
    if not all([sign in ALL_TURNINGS for sign in turnings]):
        raise InvalidTurnings(turnings)


def check_web(one, other):
    """Raise the error for what is no pair of rows that can be asked for one web."""
    check_row(one)
    check_row(other)
    check_size(one, MOST_TOURED)
    check_size(other, MOST_TOURED)


def are_one_web(one, other):
    """Tell whether both, known to be rows, have one web."""
    return turnings_to(one, other) is not None


def turnings_to(one, other):
    """Give what `turnings_between` tells of what are known to be rows."""
    if len(one) != len(other):
        return None
    goal = plain_of(other)
    for turnings in turnings_of(one, ALL_TURNINGS):
        row = tour_of(one, turnings)
        if row is not None and plain_of(row) == goal:
            return turnings
    return None


def turnings_of(row, kinds):
    """List all turnings of the row of these kinds, ascending if the kinds are."""
    return all_strings(kinds, len(row) // 2)


def rounds_of(row, turnings):
    """List the rounds, ascending, that what is known to be turnings makes."""
    onward = [0] * (2 * len(row))
    into = edges_into(0, len(row))
    for letter, turning in zip(letters_of(row), turnings):
        ways_out = leaving(row, letter, into)
        for index in range(4):
            onward[-1 - ways_out[index]] = ways_out[JOINED[turning][index]]
    return one_way_each(walks_of(onward))


def one_way_each(walks):
    """List the lesser way of each round, of walks that go along all rounds both ways."""
    # The lesser way is the one that goes backwards along the round's last edge, and so begins with it.
    return [walk for walk in walks if walk[0] == -1 - max([edge_of(element) for element in walk])]


def turned_table(row, turnings):
    """Give the table of links of the letters that are not left straight, with 1 for those turned against themselves."""
    rows = table_of(row)
    turned = [index for index, turning in enumerate(turnings) if turning != "="]
    return [
        tuple([1 if index == other and turnings[index] == "x" else rows[index][other] for other in turned])
        for index in turned
    ]


def tour_of(row, turnings):
    """Give the tour that what is known to be turnings makes, None if there is not just one round."""
    found = rounds_of(row, turnings)
    if len(found) > 1:
        return None
    return "".join([row[end_of(element, len(row))] for element in found[0]])


def plain_tours_of(row):
    """List the plain rows, unlike ones, of all tours of the row, ascending."""
    made = [tour_of(row, turnings) for turnings in turnings_of(row, ALL_TURNINGS)]
    return sorted({plain_of(other) for other in made if other is not None})


def counts_of_rounds(row, kinds):
    """List how many rounds all turnings of these kinds make, in the order of the turnings."""
    return [len(rounds_of(row, turnings)) for turnings in turnings_of(row, kinds)]
