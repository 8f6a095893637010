"""What is changed and taken back again: the stands of a bench or a shelf, and trials at whose end all is as before."""

from selfcrossed.errors import NothingToUndo


class Stand:
    """What is held at a time, behind the stand from which a change led there; it is never changed itself."""

    def __init__(self, held, before):
        self.held = held
        self.before = before
        self.many = 0 if before is None else before.many + 1


class History:
    """The stand of now, and by it those that it can be taken back to."""

    def __init__(self, held):
        self.now = Stand(held, None)

    def change(self, held):
        """Hold this from now on."""
        self.now = Stand(held, self.now)

    def take_back(self):
        """Take back the last change that is not taken back."""
        if self.now.before is None:
            raise NothingToUndo()
        self.now = self.now.before


class Kept:
    """A stand that a trial began with, above those that it began with earlier and has not ended yet."""

    def __init__(self, stand, below):
        self.stand = stand
        self.below = below


class Trial:
    """For `with`: at its end the history is as it was at its beginning."""

    def __init__(self, history, owner):
        self._history = history
        self._owner = owner
        self._kept = None

    def __enter__(self):
        self._kept = Kept(self._history.now, self._kept)
        return self._owner

    def __exit__(self, kind, value, trace):
        self._history.now = self._kept.stand
        self._kept = self._kept.below
