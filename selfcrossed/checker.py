"""The checker: it believes no claim without a paper from which it finds out by itself that the claim is so.

Of the other modules of the package it uses the limits alone, and those that are written for it.
"""

from itertools import combinations

from selfcrossed.checked_drawings import (
    are_numbers, measured_in, opposite_way_measured, same_way_measured, sheet_in, three_ways_measured, turns_measured,
)
from selfcrossed.checked_moves import are_one_drawing, drawing_on, moved
from selfcrossed.checked_rows import (
    are_integers, are_lines, are_one_line, are_sides, handles_of, is_flat_or_nothing, is_number, is_row, is_text_of,
    leads_to, least_handles, letters_in, rounds_of, tells_not_flat, tour_of, without,
)
from selfcrossed.limits import MOST_MOVES

MOST_TRIED = 6
MOST_NUMBER = 1000


def accepts(claim, paper):
    """Tell whether any value is a claim for the checker and any other one a paper for it."""
    if not isinstance(claim, tuple) or not claim or not isinstance(claim[0], str):
        return False
    if claim[0] not in CHECKS or len(claim) != SIZES[claim[0]]:
        return False
    check = CHECKS[claim[0]]
    return check(claim, paper)


def is_count(value):
    """Tell whether any value is a number as claims have it."""
    return is_number(value, 0, MOST_NUMBER)


def is_empty(paper):
    """Tell whether any value is the paper that tells nothing."""
    return isinstance(paper, tuple) and len(paper) == 0


def is_row_to_try(value):
    """Tell whether any value is a row of as few letters as are tried in all ways."""
    return is_row(value) and len(value) <= 2 * MOST_TRIED


def are_turnings(row, value):
    """Tell whether any value is turnings of the row."""
    return is_text_of(value, "=ox", len(row) // 2)


def check_flat(claim, paper):
    """Check that a row is flat."""
    row = claim[1]
    return is_row(row) and are_sides(row, paper) and handles_of((row,), paper) == 0


def check_not_flat(claim, paper):
    """Check that a row is not flat."""
    return is_row(claim[1]) and tells_not_flat(claim[1], paper)


def check_handles(claim, paper):
    """Check that some sides have so many handles."""
    _, row, number = claim
    return is_row(row) and is_count(number) and are_sides(row, paper) and handles_of((row,), paper) == number


def check_all_handles(claim, paper):
    """Check that no sides have fewer handles and some so many."""
    _, row, number = claim
    return is_row_to_try(row) and is_count(number) and is_empty(paper) and least_handles(row) == number


def check_same(claim, paper):
    """Check that two rows are the same line."""
    _, row, other = claim
    return is_row(row) and is_row(other) and leads_to(row, paper, other)


def check_unlike(claim, paper):
    """Check that two rows are not the same line."""
    _, row, other = claim
    return is_row(row) and is_row(other) and is_empty(paper) and not are_one_line(row, other)


def check_rounds(claim, paper):
    """Check that turnings make so many rounds."""
    _, row, turnings, number = claim
    if not is_row(row) or not are_turnings(row, turnings) or not is_count(number):
        return False
    if not isinstance(paper, tuple) or not all([are_integers(each) for each in paper]):
        return False
    found = tuple(rounds_of(row, turnings))
    return len(found) == number and found == paper


def check_one_web(claim, paper):
    """Check that two rows have one web."""
    _, row, other = claim
    if not is_row(row) or not is_row(other) or not isinstance(paper, tuple) or len(paper) != 2:
        return False
    turnings, way = paper
    if not are_turnings(row, turnings):
        return False
    tour = tour_of(row, turnings)
    return tour is not None and leads_to(tour, way, other)


def check_led(claim, paper):
    """Check that moves lead from one drawing to another one."""
    start, goal = sheet_in(claim[1]), sheet_in(claim[2])
    if start is None or goal is None or not isinstance(paper, tuple) or len(paper) > MOST_MOVES:
        return False
    now = drawing_on(start)
    for move in paper:
        now = moved(now, move)
        if now is None:
            return False
    return are_one_drawing(now, drawing_on(goal))


def check_turns(claim, paper):
    """Check that a drawing has so many turns."""
    measured = measured_by(claim, paper)
    return measured is not None and turns_measured(measured) == claim[2]


def check_same_way(claim, paper):
    """Check that P of a drawing is so."""
    measured = measured_by(claim, paper)
    return measured is not None and same_way_measured(measured) == claim[2]


def check_opposite_way(claim, paper):
    """Check that M of a drawing is so."""
    measured = measured_by(claim, paper)
    return measured is not None and opposite_way_measured(measured) == claim[2]


def check_three_ways(claim, paper):
    """Check that S of a drawing is so."""
    measured = measured_by(claim, paper)
    return measured is not None and three_ways_measured(measured) == claim[2]


def measured_by(claim, paper):
    """Give what is measured of the drawing if the claim has a number and the paper those of its regions, or None."""
    measured = measured_in(claim[1])
    if measured is None or not is_number(claim[2], -MOST_NUMBER, MOST_NUMBER) or not are_numbers(measured, paper):
        return None
    return measured


def check_apart(claim, paper):
    """Check that no pairs and threes lead from one drawing to the other."""
    one, other = measured_in(claim[1]), measured_in(claim[2])
    return one is not None and other is not None and is_empty(paper) and not turn_alike(one, other)


def turn_alike(one, other):
    """Tell whether the turns of both drawings are the same but for the sign."""
    return abs(turns_measured(one)) == abs(turns_measured(other))


def check_at_least(claim, paper):
    """Check that any pairs and threes that lead from one drawing to the other are so many at least."""
    one, other = measured_in(claim[1]), measured_in(claim[2])
    if one is None or other is None or not is_count(claim[3]) or not isinstance(paper, tuple) or len(paper) != 2:
        return False
    if not are_numbers(one, paper[0]) or not are_numbers(other, paper[1]) or not turn_alike(one, other):
        return False
    same = abs(same_way_measured(one) - same_way_measured(other)) // 2
    opposite = abs(opposite_way_measured(one) - opposite_way_measured(other)) // 2
    return claim[3] <= same + opposite + abs(three_ways_measured(one) - three_ways_measured(other))


def check_fewest_out(claim, paper):
    """Check that a row is flat without so many letters and not without fewer."""
    _, row, number = claim
    if not is_row_to_try(row) or not is_count(number):
        return False
    own = letters_in(row)
    if not is_text_of(paper, own, number) or sorted(set(paper)) != list(paper):
        return False
    if not is_flat_or_nothing(without(row, paper)):
        return False
    for many in range(number):
        for lot in combinations(own, many):
            if is_flat_or_nothing(without(row, lot)):
                return False
    return True


def check_lines_flat(claim, paper):
    """Check that lines are flat."""
    lines = claim[1]
    return are_lines(lines) and are_sides("".join(lines), paper) and handles_of(lines, paper) == 0


CHECKS = {
    "flat": check_flat, "not flat": check_not_flat, "handles": check_handles, "all handles": check_all_handles,
    "same": check_same, "unlike": check_unlike, "rounds": check_rounds, "one web": check_one_web, "led": check_led,
    "turns": check_turns, "same way": check_same_way, "opposite way": check_opposite_way,
    "three ways": check_three_ways, "apart": check_apart, "at least": check_at_least, "fewest out": check_fewest_out,
    "lines flat": check_lines_flat,
}
SIZES = {
    "flat": 2, "not flat": 2, "handles": 3, "all handles": 3, "same": 3, "unlike": 3, "rounds": 4, "one web": 3,
    "led": 3, "turns": 3, "same way": 3, "opposite way": 3, "three ways": 3, "apart": 3, "at least": 4, "fewest out": 3,
    "lines flat": 2,
}
