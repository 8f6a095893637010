"""Benches: drawings that are led by hand, move by move, and can be taken back."""

from selfcrossed.changed import drawing_behind
from selfcrossed.drawings import check_drawing, turned_out
from selfcrossed.errors import NoMove
from selfcrossed.history import History, Trial
from selfcrossed.moves import check_move, drawing_led, loosening_of
from selfcrossed.numbers import same_way_of, three_ways_of, turns_in


class Bench:
    """A drawing that moves lead from one to the next."""

    def __init__(self, drawing):
        check_drawing(drawing)
        self._first = drawing
        self._history = History((drawing, ()))

    @property
    def drawing(self):
        """The drawing of now."""
        return self._history.now.held[0]

    @property
    def first(self):
        """The drawing at the beginning."""
        return self._first

    @property
    def deeds(self):
        """The moves done and not taken back."""
        return self._history.now.held[1]

    @property
    def changes(self):
        """How many changes can be taken back."""
        return self._history.now.many

    @property
    def turns(self):
        """The turns of the drawing of now."""
        return turns_in(self.drawing)

    @property
    def same_way(self):
        """P of the drawing of now."""
        return same_way_of(self.drawing)

    @property
    def opposite_way(self):
        """M of the drawing of now."""
        return same_way_of(self.drawing) - self.drawing.size

    @property
    def three_ways(self):
        """S of the drawing of now."""
        return three_ways_of(self.drawing)

    def move(self, move):
        """Do a move."""
        check_move(self.drawing, move)
        self._history.change((drawing_behind(self.drawing, move), (*self.deeds, move)))

    def play(self, moves):
        """Do moves, one after the other, as one change."""
        behind = drawing_led(self.drawing, moves)
        self._history.change((behind, self.deeds + moves))

    def loosen(self):
        """Do what takes out all loops and pairs, as one change."""
        moves = loosening_of(self.drawing)
        if not moves:
            raise NoMove()
        self.play(moves)

    def turn_out(self, region):
        """Take another region as the outside, or the same one again."""
        self._history.change((turned_out(self.drawing, region), self.deeds))

    def undo(self):
        """Take back the last change that is not taken back."""
        self._history.take_back()

    def trial(self):
        """Give a trial for `with`, at whose end the bench is as it was at its beginning."""
        return Trial(self._history, self)

    def tried(self, action):
        """Give what the action gives for the bench, all that it does being taken back."""
        with self.trial():
            return action(self)

    def __eq__(self, other):
        return self is other
