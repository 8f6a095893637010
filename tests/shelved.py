"""What a shelf is to hold, told once more in plain steps: which errors are due, and which claims do not hold."""

from selfcrossed import errors
from selfcrossed.drawings import Drawing, plain_drawing
from selfcrossed.flat import flat_sides, is_flat, why_not
from selfcrossed.handles import least_handles
from selfcrossed.numbers import three_ways, turns
from selfcrossed.rows import is_row, plain
from selfcrossed.turnings import count_rounds, one_web

ROWS, DRAWINGS, ANY = "rows", "drawings", "any"
SORTS = {
    "flat": [ROWS], "not flat": [ROWS], "same": [ANY, ANY], "one web": [ROWS, ROWS], "handles": [ROWS], "turns": [DRAWINGS],
    "three ways": [DRAWINGS], "rounds": [ROWS],
}


def sort_of(thing):
    return DRAWINGS if isinstance(thing, Drawing) else ROWS


def plain_form(thing):
    return plain_drawing(thing).text if isinstance(thing, Drawing) else plain(thing)


def asked(things, claim):
    """Whether the claim holds, and what is shown if it does not."""
    word, thing = claim[0], things[claim[1]]
    if word == "flat":
        return is_flat(thing), why_not(thing)
    if word == "not flat":
        return not is_flat(thing), (flat_sides(thing) + (None,))[0]
    if word == "same":
        forms = (plain_form(thing), plain_form(things[claim[2]]))
        return len(set(forms)) == 1, forms
    if word == "one web":
        other = things[claim[2]]
        return len(thing) <= 12 and len(other) <= 12 and one_web(thing, other), None
    if word == "rounds" and len(claim[2]) * 2 != len(thing):
        return False, None
    number = {
        "handles": lambda: least_handles(thing), "turns": lambda: turns(thing), "three ways": lambda: three_ways(thing),
        "rounds": lambda: count_rounds(thing, claim[2]),
    }[word]()
    return number == claim[-1], number


def names_in(claim):
    return list(claim[1:1 + len(SORTS[claim[0]])])


class Model:
    """A shelf that keeps all that it was, and tells the error that is due ahead of a deed instead of doing it."""

    def __init__(self):
        self.kept = [({}, ())]

    @property
    def now(self):
        return self.kept[-1]

    def told(self):
        things, claims = self.now
        return tuple(sorted(things)), claims, len(self.kept) - 1, [things[name] for name in sorted(things)]

    def first_broken(self, things, claims):
        for index, claim in enumerate(claims):
            does_hold, shown = asked(things, claim)
            if not does_hold:
                return errors.Broken, {"index": index, "shown": shown}
        return None

    def in_use(self, name):
        for index, claim in enumerate(self.now[1]):
            if name in names_in(claim):
                return errors.InUse, {"index": index}
        return None

    def put(self, name, thing):
        things, claims = self.now
        if not (isinstance(name, str) and 1 <= len(name) <= 8 and set(name) <= set("abcdefghijklmnopqrstuvwxyz")):
            return errors.InvalidName, {"given": name}
        if not isinstance(thing, Drawing) and not (is_row(thing) and len(thing) <= 16):
            return errors.NotAThing, {"given": thing}
        if name in things and sort_of(things[name]) != sort_of(thing) and self.in_use(name):
            return self.in_use(name)
        new = dict(things)
        new[name] = thing
        error = self.first_broken(new, claims)
        if error is None:
            self.kept.append((new, claims))
        return error

    def drop(self, name):
        things, claims = self.now
        if not isinstance(name, str) or name not in things:
            return errors.UnknownName, {"given": name}
        if self.in_use(name):
            return self.in_use(name)
        self.kept.append(({other: things[other] for other in things if other != name}, claims))
        return None

    def claim(self, claim):
        things, claims = self.now
        sorts = SORTS[claim[0]]
        found = []
        for name, sort in zip(names_in(claim), sorts):
            if not isinstance(name, str) or name not in things:
                return errors.UnknownName, {"given": name}
            found.append(sort_of(things[name]))
            if sort not in (ANY, found[-1]) or found[-1] != found[0]:
                return errors.UnknownName, {"given": name}
        error = self.first_broken(things, claims + (claim,))
        if error is None:
            self.kept.append((things, claims + (claim,)))
        return error

    def lift(self, index):
        things, claims = self.now
        if index not in range(len(claims)):
            return errors.InvalidIndex, {"given": index}
        self.kept.append((things, claims[:index] + claims[index + 1:]))
        return None

    def undo(self):
        if len(self.kept) == 1:
            return errors.NothingToUndo, {}
        self.kept.pop()
        return None
