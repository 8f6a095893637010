"""Certificates: claims for the checker that are so, with papers that it takes."""

from selfcrossed.drawings import check_drawing
from selfcrossed.flat import flat_sides_of, wrong_in
from selfcrossed.handles import first_sides_of, least_of
from selfcrossed.limits import MOST_SIDES
from selfcrossed.lines import check_few_lines, flat_sides_of_lines
from selfcrossed.links import linked_of
from selfcrossed.moves import drawing_led, least_moves
from selfcrossed.numbers import numbers_of_regions, same_way_of, three_ways_of, turns_in
from selfcrossed.parts import fewest_out_of
from selfcrossed.rows import begun_from, check_row, check_size, letters_of
from selfcrossed.turnings import MOST_TOURED, check_turnings, check_web, rounds_of, tour_of, turnings_to


def certify_flat(row):
    """Certify that the row is flat, or that it is not."""
    check_row(row)
    wrong = wrong_in(linked_of(row))
    if wrong is not None:
        return ("not flat", row), wrong
    return ("flat", row), flat_sides_of(row)[0]


def certify_handles(row):
    """Certify the row's least number of handles: that it is the least one only if the checker can try all sides."""
    check_row(row)
    check_size(row, MOST_SIDES)
    least = least_of(row)
    if len(row) <= 2 * MOST_TOURED:
        return ("all handles", row, least), ()
    return ("handles", row, least), first_sides_of(row, least)


def certify_same(one, other):
    """Certify that both rows are the same line, or that they are not."""
    check_row(one)
    check_row(other)
    way = way_to(one, other)
    if way is None:
        return ("unlike", one, other), ()
    return ("same", one, other), way


def certify_rounds(row, turnings):
    """Certify how many rounds the turnings make."""
    check_row(row)
    check_turnings(row, turnings)
    found = tuple(rounds_of(row, turnings))
    return ("rounds", row, turnings, len(found)), found


def certify_web(one, other):
    """Certify that both rows have one web, None if they have not."""
    check_web(one, other)
    turnings = turnings_to(one, other)
    if turnings is None:
        return None
    return ("one web", one, other), (turnings, way_to(tour_of(one, turnings), other))


def certify_turns(drawing):
    """Certify the turns of the drawing."""
    check_drawing(drawing)
    return ("turns", drawing.text, turns_in(drawing)), tuple(numbers_of_regions(drawing))


def certify_same_way(drawing):
    """Certify P of the drawing."""
    check_drawing(drawing)
    return ("same way", drawing.text, same_way_of(drawing)), tuple(numbers_of_regions(drawing))


def certify_opposite_way(drawing):
    """Certify M of the drawing."""
    check_drawing(drawing)
    number = same_way_of(drawing) - drawing.size
    return ("opposite way", drawing.text, number), tuple(numbers_of_regions(drawing))


def certify_three_ways(drawing):
    """Certify S of the drawing."""
    check_drawing(drawing)
    return ("three ways", drawing.text, three_ways_of(drawing)), tuple(numbers_of_regions(drawing))


def certify_apart(one, other):
    """Certify that no pairs and threes lead from the one drawing to the other, None if their turns do not tell so."""
    check_drawing(one)
    check_drawing(other)
    if abs(turns_in(one)) == abs(turns_in(other)):
        return None
    return ("apart", one.text, other.text), ()


def certify_least(one, other):
    """Certify how many pairs and threes at least lead from the one drawing to the other, None if none do."""
    check_drawing(one)
    check_drawing(other)
    least = least_moves(one, other)
    if least is None:
        return None
    paper = (tuple(numbers_of_regions(one)), tuple(numbers_of_regions(other)))
    return ("at least", one.text, other.text, sum(least)), paper


def certify_led(drawing, moves):
    """Certify that the moves lead from the drawing to the one behind them."""
    check_drawing(drawing)
    behind = drawing_led(drawing, moves)
    return ("led", drawing.text, behind.text), moves


def certify_out(row):
    """Certify how few letters must go to make the row flat."""
    check_row(row)
    check_size(row, MOST_TOURED)
    gone = fewest_out_of(row)
    return ("fewest out", row, len(gone)), gone


def certify_lines(lines):
    """Certify that the lines are flat, None if they are not."""
    check_few_lines(lines)
    found = flat_sides_of_lines(lines)
    if not found:
        return None
    return ("lines flat", lines), found[0]


def way_to(one, other):
    """Give the place, the way and the letters by which the one row becomes the other one, None if it does not."""
    if len(one) != len(other):
        return None
    for place in range(len(one)):
        for way in (1, -1):
            letters = naming_to(begun_from(one, place)[::way], other)
            if letters is not None:
                return place, way, letters
    return None


def naming_to(one, other):
    """Give what the letters of the one row, ascending, must become to make it the other row, None if nothing does."""
    others = dict(zip(one, other))
    if "".join([others[letter] for letter in one]) != other:
        return None
    return "".join([others[letter] for letter in letters_of(one)])
