"""What [25] says of claims and papers, told once more by the modules whose results the checker does not use."""

from selfcrossed import errors
from selfcrossed.drawings import Drawing, are_same
from selfcrossed.flat import flat_sides, handles
from selfcrossed.handles import least_handles
from selfcrossed.lines import are_same_lines, lines_handles
from selfcrossed.links import are_linked, linked_with
from selfcrossed.moves import least_moves_of, led
from selfcrossed.numbers import opposite_way, region_numbers, same_way, three_ways, turns
from selfcrossed.parts import fewest_out
from selfcrossed.rows import backwards, begun, is_row, is_same, letters, named
from selfcrossed.spreads import without
from selfcrossed.turnings import count_rounds, rounds, tour

WORDS = (
    "flat", "not flat", "handles", "all handles", "same", "unlike", "rounds", "one web", "led", "turns", "same way", "opposite way", "three ways",
    "apart", "at least", "fewest out", "lines flat",
)
NUMBER_OF = {"turns": turns, "same way": same_way, "opposite way": opposite_way, "three ways": three_ways}


def is_exactly(value, kind):
    return value.__class__ is kind


def is_paper(claim, paper):
    """Whether the claim is one, and the paper one for it."""
    if not is_exactly(claim, tuple) or not claim or not is_exactly(claim[0], str) or claim[0] not in WORDS:
        return False
    tell = globals()["tell_" + claim[0].replace(" ", "_")]
    # The word goes, the paper comes.
    return tell.__code__.co_argcount == len(claim) and bool(tell(*claim[1:], paper))


def is_of(value, signs, size):
    return is_exactly(value, str) and len(value) == size and not set(value) - set(signs)


def is_sides(row, value):
    return is_of(value, "+-", len(row) // 2)


def is_count(value, least=0):
    return is_exactly(value, int) and least <= value <= 1000


def drawing_of(text):
    try:
        return Drawing.read(text)
    except errors.InvalidText:
        return None


def tell_flat(row, paper):
    return is_row(row) and is_sides(row, paper) and paper in flat_sides(row)


def tell_not_flat(row, paper):
    if not is_row(row) or not is_exactly(paper, str) or not paper or set(paper) - set(row):
        return False
    if len(paper) == 1:
        return len(linked_with(row, paper)) % 2 == 1
    if len(paper) == 2:
        return paper[0] < paper[1] and not are_linked(row, *paper) and both(row, *paper) % 2 == 1
    pairs = list(zip(paper, paper[1:] + paper[:1]))
    if len(set(paper)) < len(paper) or not all(are_linked(row, *pair) for pair in pairs):
        return False
    return len([pair for pair in pairs if both(row, *pair) % 2 == 0]) % 2 == 1


def both(row, one, other):
    return len(set(linked_with(row, one)) & set(linked_with(row, other)))


def tell_handles(row, number, paper):
    return is_row(row) and is_count(number) and is_sides(row, paper) and handles(row, paper) == number


def tell_all_handles(row, number, paper):
    return is_row(row) and len(row) <= 12 and is_count(number) and is_nothing(paper) and least_handles(row) == number


def is_nothing(paper):
    return is_exactly(paper, tuple) and len(paper) == 0


def leads_to(row, paper, goal):
    if not is_exactly(paper, tuple) or len(paper) != 3:
        return False
    place, way, others = paper
    if not is_exactly(place, int) or not is_exactly(way, int) or not is_exactly(others, str) or way not in (-1, 1):
        return False
    try:
        read = begun(row, place) if way == 1 else backwards(begun(row, place))
        return named(read, others) == goal
    except (errors.InvalidPlace, errors.InvalidLetters):
        return False


def tell_same(row, other, paper):
    return is_row(row) and is_row(other) and leads_to(row, paper, other)


def tell_unlike(row, other, paper):
    return is_row(row) and is_row(other) and is_nothing(paper) and not is_same(row, other)


def tell_rounds(row, turnings, number, paper):
    if not is_row(row) or not is_of(turnings, "=ox", len(row) // 2) or not is_count(number) or not is_exactly(paper, tuple):
        return False
    if not all(is_exactly(each, tuple) and all(is_exactly(part, int) for part in each) for each in paper):
        return False
    return paper == rounds(row, turnings) and number == count_rounds(row, turnings)


def tell_one_web(row, other, paper):
    if not is_row(row) or not is_row(other) or not is_exactly(paper, tuple) or len(paper) != 2:
        return False
    turnings, way = paper
    if not is_of(turnings, "=ox", len(row) // 2) or tour(row, turnings) is None:
        return False
    return leads_to(tour(row, turnings), way, other)


def tell_led(one, other, paper):
    start, goal = drawing_of(one), drawing_of(other)
    if start is None or goal is None:
        return False
    try:
        return are_same(led(start, paper), goal)
    except errors.InvalidMoves:
        return False


def is_number_of(word, text, number, paper):
    drawing = drawing_of(text)
    if drawing is None or not is_count(number, -1000) or not are_numbers(drawing, paper):
        return False
    return NUMBER_OF[word](drawing) == number


def are_numbers(drawing, paper):
    if not is_exactly(paper, tuple) or not all(is_exactly(number, int) for number in paper):
        return False
    return paper == region_numbers(drawing)


def tell_turns(text, number, paper):
    return is_number_of("turns", text, number, paper)


def tell_same_way(text, number, paper):
    return is_number_of("same way", text, number, paper)


def tell_opposite_way(text, number, paper):
    return is_number_of("opposite way", text, number, paper)


def tell_three_ways(text, number, paper):
    return is_number_of("three ways", text, number, paper)


def tell_apart(one, other, paper):
    one, other = drawing_of(one), drawing_of(other)
    return one is not None and other is not None and is_nothing(paper) and abs(turns(one)) != abs(turns(other))


def tell_at_least(one, other, number, paper):
    one, other = drawing_of(one), drawing_of(other)
    if one is None or other is None or not is_count(number) or not is_exactly(paper, tuple) or len(paper) != 2:
        return False
    if not are_numbers(one, paper[0]) or not are_numbers(other, paper[1]) or least_moves_of(one, other) is None:
        return False
    return number <= sum(least_moves_of(one, other))


def tell_fewest_out(row, number, paper):
    if not is_row(row) or len(row) > 12 or not is_count(number) or not is_of(paper, letters(row), number):
        return False
    if list(paper) != sorted(set(paper)) or number != len(fewest_out(row)):
        return False
    return number == 0 or bool(flat_sides(without(row, paper)))


def tell_lines_flat(lines, paper):
    try:
        are_same_lines(lines, lines)
    except errors.InvalidLines:
        return False
    return is_sides("".join(lines), paper) and lines_handles(lines, paper) == 0
