"""Shelves: rows and drawings under names, with claims of which all hold after each change."""

from selfcrossed.claims import (
    check_all_hold, check_claim, check_unused, is_name_of, sort_of,
)
from selfcrossed.drawings import Drawing
from selfcrossed.errors import InvalidIndex, InvalidName, NotAThing, UnknownName
from selfcrossed.history import History, Trial
from selfcrossed.integers import is_from_to
from selfcrossed.limits import MOST_SIDES
from selfcrossed.rows import is_row

NAME_SIGNS = "abcdefghijklmnopqrstuvwxyz"
MOST_SIGNS = 8


class Shelf:
    """Things under names, and claims of them."""

    def __init__(self):
        # The things and the claims are never changed themselves, others come in their place.
        self._history = History(({}, ()))

    @property
    def names(self):
        """The names, ascending."""
        return tuple(sorted(self._history.now.held[0]))

    @property
    def claims(self):
        """The claims in the order in which they were made."""
        return self._history.now.held[1]

    @property
    def changes(self):
        """How many changes can be taken back."""
        return self._history.now.many

    def put(self, name, thing):
        """Put a row or a drawing under the name, also in the place of what is there."""
        if not is_name(name):
            raise InvalidName(name)
        if not is_thing(thing):
            raise NotAThing(thing)
        things, claims = self._history.now.held
        if name in things and sort_of(things[name]) != sort_of(thing):
            check_unused(claims, name)
        new = {**things, name: thing}
        check_all_hold(new, claims)
        self._history.change((new, claims))

    def thing(self, name):
        """Give what is under the name."""
        things = self._history.now.held[0]
        if not is_name_of(things, name):
            raise UnknownName(name)
        return things[name]

    def drop(self, name):
        """Take away what is under the name."""
        things, claims = self._history.now.held
        if not is_name_of(things, name):
            raise UnknownName(name)
        check_unused(claims, name)
        self._history.change(({other: things[other] for other in things if other != name}, claims))

    def claim(self, claim):
        """Make one claim more."""
        things, claims = self._history.now.held
        check_claim(things, claim)
        new = (*claims, claim)
        check_all_hold(things, new)
        self._history.change((things, new))

    def lift(self, index):
        """Take a claim away."""
        things, claims = self._history.now.held
        if not is_from_to(index, 0, len(claims) - 1):
            raise InvalidIndex(index)
        self._history.change((things, claims[:index] + claims[index + 1:]))

    def undo(self):
        """Take back the last change that is not taken back."""
        self._history.take_back()

    def trial(self):
        """Give a trial for `with`, at whose end the shelf is as it was at its beginning."""
        return Trial(self._history, self)

    def tried(self, action):
        """Give what the action gives for the shelf, all that it does being taken back."""
        with self.trial():
            return action(self)

    def __contains__(self, name):
        return is_name_of(self._history.now.held[0], name)

    def __eq__(self, other):
        return self is other


def is_name(value):
    """Tell whether any value is a name."""
    if not isinstance(value, str) or not 1 <= len(value) <= MOST_SIGNS:
        return False
    return all([sign in NAME_SIGNS for sign in value])


def is_thing(value):
    """Tell whether any value is a drawing or a row that is kept."""
    return isinstance(value, Drawing) or is_kept_row(value)


def is_kept_row(value):
    """Tell whether any value is a row of as few letters as a shelf keeps."""
    return is_row(value) and len(value) <= 2 * MOST_SIDES
