"""Claims of a shelf: what is one, which things it names, and whether it holds of the things of the shelf."""

from selfcrossed.drawings import Drawing, plain_of_drawing
from selfcrossed.errors import Broken, InUse, InvalidClaim, UnknownName
from selfcrossed.flat import flat_sides_of, wrong_in
from selfcrossed.handles import least_of
from selfcrossed.integers import is_from_to
from selfcrossed.links import linked_of
from selfcrossed.numbers import three_ways_of, turns_in
from selfcrossed.rows import plain_of
from selfcrossed.turnings import ALL_TURNINGS, MOST_TOURED, are_one_web, rounds_of

# Of which sort the things are to be that a claim names, None for any one sort, and how many it names.
NAMED = {
    "flat": ("row", 1), "not flat": ("row", 1), "same": (None, 2), "one web": ("row", 2), "handles": ("row", 1),
    "rounds": ("row", 1), "turns": ("drawing", 1), "three ways": ("drawing", 1),
}
# From where to where the last element of a claim goes if it is a number.
NUMBERS = {"handles": (0, 10), "turns": (-1000, 1000), "three ways": (-1000, 1000), "rounds": (1, 20)}


def is_claim(value):
    """Tell whether any value is a claim, whatever its names are."""
    if not isinstance(value, tuple) or not value or not isinstance(value[0], str) or value[0] not in NAMED:
        return False
    word = value[0]
    has_turnings = word == "rounds"
    if len(value) != 1 + NAMED[word][1] + (1 if has_turnings else 0) + (1 if word in NUMBERS else 0):
        return False
    if has_turnings and not is_of_turnings(value[2]):
        return False
    return word not in NUMBERS or is_from_to(value[-1], NUMBERS[word][0], NUMBERS[word][1])


def is_of_turnings(value):
    """Tell whether the value is a string of turnings, however many."""
    return isinstance(value, str) and all([sign in ALL_TURNINGS for sign in value])


def check_claim(things, claim):
    """Raise the error for what is no claim of these things, by their names."""
    if not is_claim(claim):
        raise InvalidClaim(claim)
    sort = NAMED[claim[0]][0]
    for name in names_of(claim):
        if not is_name_of(things, name) or sort not in (None, sort_of(things[name])):
            raise UnknownName(name)
        # Where the first thing may be of any sort, the second one is to be of the same.
        sort = sort_of(things[name])


def is_name_of(things, value):
    """Tell whether any value is a name under which there is a thing."""
    return isinstance(value, str) and value in things


def sort_of(thing):
    """Give the sort of what is known to be a thing."""
    return "drawing" if isinstance(thing, Drawing) else "row"


def names_of(claim):
    """Give the names of the claim."""
    return claim[1:1 + NAMED[claim[0]][1]]


def check_unused(claims, name):
    """Raise the error with the first claim that names what is to go."""
    for index, claim in enumerate(claims):
        if name in names_of(claim):
            raise InUse(index)


def check_all_hold(things, claims):
    """Raise the error with the first claim that does not hold of these things."""
    for index, claim in enumerate(claims):
        ask = ASKED[claim[0]]
        does_hold, shown = ask(things, claim)
        if not does_hold:
            raise Broken(index, shown)


def ask_flat(things, claim):
    """Tell whether the row is flat, and what tells that it is not."""
    wrong = wrong_in(linked_of(things[claim[1]]))
    return wrong is None, wrong


def ask_not_flat(things, claim):
    """Tell whether the row is not flat, and the first sides that tell that it is."""
    found = flat_sides_of(things[claim[1]])
    return not found, found[0] if found else None


def ask_same(things, claim):
    """Tell whether both things are the same, and what they are in plain form."""
    shown = tuple([plain_text(things[name]) for name in names_of(claim)])
    return shown[0] == shown[1], shown


def plain_text(thing):
    """Give the plain row of a row, the text of the plain drawing of a drawing."""
    return plain_of_drawing(thing).text if isinstance(thing, Drawing) else plain_of(thing)


def ask_one_web(things, claim):
    """Tell whether both rows have one web."""
    one, other = things[claim[1]], things[claim[2]]
    are_few = max(len(one), len(other)) <= 2 * MOST_TOURED
    return are_few and are_one_web(one, other), None


def ask_handles(things, claim):
    """Tell whether this is the row's least number of handles, and that number."""
    number = least_of(things[claim[1]])
    return number == claim[2], number


def ask_turns(things, claim):
    """Tell whether the drawing has so many turns, and how many it has."""
    number = turns_in(things[claim[1]])
    return number == claim[2], number


def ask_three_ways(things, claim):
    """Tell whether this is S of the drawing, and its S."""
    number = three_ways_of(things[claim[1]])
    return number == claim[2], number


def ask_rounds(things, claim):
    """Tell whether the turnings make so many rounds, and how many they make, None if they are not for the row."""
    row, turnings = things[claim[1]], claim[2]
    if 2 * len(turnings) != len(row):
        return False, None
    number = len(rounds_of(row, turnings))
    return number == claim[3], number


ASKED = {
    "flat": ask_flat, "not flat": ask_not_flat, "same": ask_same, "one web": ask_one_web, "handles": ask_handles,
    "turns": ask_turns, "three ways": ask_three_ways, "rounds": ask_rounds,
}
