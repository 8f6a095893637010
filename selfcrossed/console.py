"""A console: lines of text that change a shelf or ask it."""

from selfcrossed.drawings import Drawing, drawing_in
from selfcrossed.errors import InvalidCommand, InvalidText, UnknownName
from selfcrossed.flat import is_flat, why_not
from selfcrossed.handles import least_handles
from selfcrossed.numbers import opposite_way, region_numbers, same_way, three_ways, turns
from selfcrossed.rows import plain
from selfcrossed.shelves import Shelf, is_kept_row, is_name
from selfcrossed.spreads import without
from selfcrossed.turnings import count_rounds

DIGITS = "0123456789"
DONE = "ok"


class Console:
    """Takes commands for a shelf of its own."""

    def __init__(self):
        self._shelf = Shelf()

    @property
    def shelf(self):
        """The shelf."""
        return self._shelf

    def run(self, command):
        """Do a command and give what it answers."""
        words = command.split(" ") if isinstance(command, str) else []
        for form in FORMS:
            if is_of_form(words, form):
                act = FORMS[form]
                return act(self._shelf, told_by(words, form))
        for form in CLAIMS:
            if is_of_form(words, form):
                self._shelf.claim((CLAIMS[form], *told_by(words, form)))
                return DONE
        raise InvalidCommand(command)

    def __eq__(self, other):
        return self is other


def is_of_form(words, form):
    """Tell whether the words are those of the form, with names for A, numbers for N and any words for X."""
    parts = form.split(" ")
    return len(words) == len(parts) and all([is_for(word, part) for word, part in zip(words, parts)])


def is_for(word, part):
    """Tell whether the word may stand for this part of a form."""
    if part == "A":
        return is_name(word)
    if part == "N":
        return number_in(word) is not None
    return word != "" if part == "X" else word == part


def told_by(words, form):
    """List what the words tell besides those that each command of this form has."""
    pairs = list(zip(words, form.split(" ")))
    return [number_in(word) if part == "N" else word for word, part in pairs if part in ("A", "N", "X")]


def number_in(word):
    """Give the number that is written in decimal digits, None if it is not written as it should be."""
    digits = word[1:] if word.startswith("-") else word
    if not digits or not all([sign in DIGITS for sign in digits]):
        return None
    if digits.startswith("0") and word != "0":
        return None
    # Python itself does not read the longest ones.
    number = 0
    for sign in digits:
        number = 10 * number + DIGITS.find(sign)
    return -number if word.startswith("-") else number


def row_of(shelf, name):
    """Give the row under the name."""
    thing = shelf.thing(name)
    if isinstance(thing, Drawing):
        raise UnknownName(name)
    return thing


def drawing_of(shelf, name):
    """Give the drawing under the name."""
    thing = shelf.thing(name)
    if not isinstance(thing, Drawing):
        raise UnknownName(name)
    return thing


def run_row(shelf, told):
    """Put a row."""
    name, row = told
    if not is_kept_row(row):
        raise InvalidText(row)
    shelf.put(name, row)
    return DONE


def run_drawing(shelf, told):
    """Put a drawing."""
    text = " ".join(told[1:])
    drawing = drawing_in(text)
    if drawing is None:
        raise InvalidText(text)
    shelf.put(told[0], drawing)
    return DONE


def run_drop(shelf, told):
    """Take a thing away."""
    shelf.drop(told[0])
    return DONE


def run_undo(shelf, told):
    """Take back the last change."""
    shelf.undo()
    return DONE


def run_lift(shelf, told):
    """Take a claim away."""
    shelf.lift(told[0])
    return DONE


def run_show(shelf, told):
    """Show a row or the text of a drawing."""
    thing = shelf.thing(told[0])
    return thing.text if isinstance(thing, Drawing) else thing


def run_names(shelf, told):
    """Show the names."""
    return " ".join(shelf.names)


def run_claims(shelf, told):
    """Count the claims."""
    return str(len(shelf.claims))


def run_flat(shelf, told):
    """Tell whether a row is flat."""
    return "yes" if is_flat(row_of(shelf, told[0])) else "no"


def run_why(shelf, told):
    """Tell why a row is not flat."""
    why = why_not(row_of(shelf, told[0]))
    return "-" if why is None else why


def run_plain(shelf, told):
    """Show the plain row of a row."""
    return plain(row_of(shelf, told[0]))


def run_handles(shelf, told):
    """Tell the least number of handles of a row."""
    return str(least_handles(row_of(shelf, told[0])))


def run_rounds(shelf, told):
    """Count the rounds that turnings of a row make."""
    return str(count_rounds(row_of(shelf, told[0]), told[1]))


def run_without(shelf, told):
    """Show a row without some letters."""
    return without(row_of(shelf, told[0]), told[1])


def run_turns(shelf, told):
    """Tell the turns of a drawing."""
    return str(turns(drawing_of(shelf, told[0])))


def run_same_way(shelf, told):
    """Tell P of a drawing."""
    return str(same_way(drawing_of(shelf, told[0])))


def run_opposite_way(shelf, told):
    """Tell M of a drawing."""
    return str(opposite_way(drawing_of(shelf, told[0])))


def run_three_ways(shelf, told):
    """Tell S of a drawing."""
    return str(three_ways(drawing_of(shelf, told[0])))


def run_regions(shelf, told):
    """Show the numbers of the regions of a drawing."""
    return " ".join([str(number) for number in region_numbers(drawing_of(shelf, told[0]))])


FORMS = {
    "row A X": run_row, "drawing A X X X": run_drawing, "drop A": run_drop, "undo": run_undo, "lift N": run_lift,
    "show A": run_show, "names": run_names, "claims": run_claims, "flat A": run_flat, "why A": run_why,
    "plain A": run_plain, "handles A": run_handles, "rounds A X": run_rounds, "without A X": run_without,
    "turns A": run_turns, "same way A": run_same_way, "opposite way A": run_opposite_way,
    "three ways A": run_three_ways, "regions A": run_regions,
}
CLAIMS = {
    "claim flat A": "flat", "claim not flat A": "not flat", "claim same A A": "same", "claim one web A A": "one web",
    "claim handles A N": "handles", "claim turns A N": "turns", "claim three ways A N": "three ways",
    "claim rounds A X N": "rounds",
}
