"""What [23] and the interface say of benches: whatever is done, they have the drawings that the moves lead to."""

import unittest

from selfcrossed.benches import Bench
from selfcrossed.drawings import Drawing, turned_out
from selfcrossed.errors import InvalidMove, InvalidMoves, InvalidOutside, NoMove, NothingToUndo, TooMany
from selfcrossed.moves import done, ins, led, loosened, outs
from selfcrossed.numbers import opposite_way, same_way, three_ways, turns
from tests.few import few_drawings
from tests.kinds import EqualToAll, LikeOne, Plain, Touchy, no_drawings, no_strings_or_integers, raised
from tests.pictures import Numbers

CURL = Drawing("aa", "+", -1)
EIGHT = Drawing("aa", "+", 0)
THREE = Drawing("abcabc", "+-+", -5)
LOOP = ("loop", 0, "l")


def shown(bench):
    """All that a bench tells of itself."""
    numbers = bench.turns, bench.same_way, bench.opposite_way, bench.three_ways
    return bench.drawing.text, bench.first.text, bench.deeds, bench.changes, numbers


def some_benches():
    return [Bench(drawing) for drawing in few_drawings(2)[::3] + few_drawings(3)[::23] + few_drawings(4)[::997]]


def chosen(moves, numbers):
    return moves[numbers.below(len(moves))]


def change_somehow(bench, numbers):
    """Change the bench in one of all ways; give the drawing and the deeds that it is to have then."""
    drawing, deeds = bench.drawing, bench.deeds
    way = numbers.below(6)
    if way == 0 and loosened(drawing):
        moves = loosened(drawing)
        told = bench.loosen()
        found = led(drawing, moves), deeds + moves
    elif way == 1:
        region = chosen(drawing.regions, numbers)
        told = bench.turn_out(region)
        found = turned_out(drawing, region), deeds
    elif way == 2:
        moves = some_moves(drawing, numbers.below(4), numbers)
        told = bench.play(moves)
        found = led(drawing, moves), deeds + moves
    else:
        move = one_move(drawing, numbers)
        told = bench.move(move)
        found = done(drawing, move), deeds + (move,)
    assert told is None
    return found


def one_move(drawing, numbers):
    """Any move; with many letters rather one that takes some out."""
    moves = outs(drawing)
    if not moves or drawing.size < 4 + numbers.below(4):
        moves += ins(drawing)
    return chosen(moves, numbers)


def some_moves(drawing, many, numbers):
    moves = ()
    for _ in range(many):
        moves += (one_move(led(drawing, moves), numbers),)
    return moves


class Deeds(unittest.TestCase):
    def test_new(self):
        for bench, drawing in [(Bench(drawing), drawing) for drawing in few_drawings(2)]:
            told = turns(drawing), same_way(drawing), opposite_way(drawing), three_ways(drawing)
            self.assertEqual(shown(bench), (drawing.text, drawing.text, (), 0, told))
            self.assertTrue(bench.drawing == drawing and bench.first == drawing)

    def test_whatever_is_done(self):
        numbers = Numbers(23)
        for bench in some_benches():
            kept = [shown(bench)]
            for _ in range(14):
                drawing, deeds = change_somehow(bench, numbers)
                told = turns(drawing), same_way(drawing), opposite_way(drawing), three_ways(drawing)
                self.assertEqual(shown(bench), (drawing.text, kept[0][1], deeds, len(kept), told))
                kept.append(shown(bench))
                # Some is taken back on the way.
                while len(kept) > 1 and numbers.below(4) == 0:
                    self.assertIsNone(bench.undo())
                    kept.pop()
                    self.assertEqual(shown(bench), kept[-1])
            while len(kept) > 1:
                bench.undo()
                kept.pop()
                self.assertEqual(shown(bench), kept[-1])
            self.assertIsInstance(raised(bench.undo, []), NothingToUndo)
            self.assertEqual(shown(bench), kept[0])

    def test_deeds_lead_to_the_drawing_if_no_outside_is_turned(self):
        numbers = Numbers(5)
        for bench in some_benches():
            for _ in range(5):
                bench.play(some_moves(bench.drawing, numbers.below(4), numbers))
            self.assertTrue(led(bench.first, bench.deeds) == bench.drawing)

    def test_no_moves_are_a_change(self):
        bench = Bench(CURL)
        bench.play(())
        bench.play(())
        self.assertEqual([bench.changes, bench.deeds, bench.drawing == CURL], [2, (), True])
        bench.undo()
        self.assertEqual(bench.changes, 1)

    def test_sixty_moves_are_one_change(self):
        bench = Bench(CURL)
        bench.play((LOOP, ("no loop", "b")) * 30)
        self.assertEqual([bench.changes, len(bench.deeds), bench.drawing == CURL], [1, 60, True])
        bench.undo()
        self.assertEqual([bench.changes, bench.deeds], [0, ()])

    def test_the_same_outside_again_is_a_change_and_no_deed(self):
        bench = Bench(CURL)
        bench.turn_out(CURL.outside)
        self.assertEqual([bench.changes, bench.deeds, bench.drawing == CURL], [1, (), True])
        bench.turn_out((1,))
        bench.move(LOOP)
        self.assertEqual([bench.changes, bench.deeds, bench.drawing == done(Drawing("aa", "+", 1), LOOP)], [3, (LOOP,), True])

    def test_many_changes(self):
        bench = Bench(CURL)
        for _ in range(2000):
            bench.turn_out((1,))
        self.assertEqual(bench.changes, 2000)
        for _ in range(2000):
            bench.undo()
        self.assertEqual([bench.changes, bench.drawing == CURL], [0, True])

    def test_first_stays(self):
        bench = Bench(THREE)
        bench.loosen()
        self.assertTrue(bench.first == THREE)
        self.assertFalse(bench.drawing == THREE)


class Wrong(unittest.TestCase):
    def assert_refused(self, bench, action, arguments, names, kind, told):
        """By position and by name the error comes, and the bench stays as it is."""
        before = shown(bench)
        for error in (raised(action, arguments), raised(action, arguments, names)):
            self.assertTrue(error.__class__ is kind, f"{error.__class__} instead of {kind}")
            self.assertEqual(list(vars(error)), list(told))
            for name, worth in told.items():
                self.assertTrue(getattr(error, name) is worth, f"another {name} is kept")
            self.assertEqual(shown(bench), before)

    def test_no_drawing(self):
        for value in no_drawings():
            error = raised(Bench, [value])
            self.assertTrue(error.__class__.__name__ == "NotADrawing" and error.given is value)
            self.assertTrue(raised(Bench, [value], ["drawing"]).given is value)

    def test_no_move(self):
        bench = Bench(CURL)
        bench.move(LOOP)
        wrong = [("loop", 4, "l"), ("no loop", "c"), ("no pair", "a", "b"), ("loop", True, "l"), ("loop", LikeOne(), "l"), ["loop", 0, "l"], CURL, bench]
        for value in no_strings_or_integers() + wrong:
            self.assert_refused(bench, bench.move, [value], ["move"], InvalidMove, {"given": value})

    def test_no_moves(self):
        bench = Bench(CURL)
        for value in (None, [LOOP], "loop", LOOP[1], Plain(), Touchy(), {}, [], CURL):
            self.assert_refused(bench, bench.play, [value], ["moves"], InvalidMoves, {"index": None})
        moves = (LOOP, ("no loop", "b"))
        told = [((None,), 0), (moves + (None,), 2), (moves * 2 + moves[1:], 4), (moves * 30 + (LOOP,), 60), (moves * 30 + (None,), 60), (LOOP, 0)]
        for value, index in told:
            self.assert_refused(bench, bench.play, [value], ["moves"], InvalidMoves, {"index": index})

    def test_nothing_to_loosen(self):
        for drawing in (CURL, EIGHT, Drawing("aabb", "++", -1)):
            if not loosened(drawing):
                bench = Bench(drawing)
                self.assert_refused(bench, bench.loosen, [], [], NoMove, {})
        self.assertIsInstance(raised(Bench(CURL).loosen, []), NoMove)

    def test_no_outside(self):
        bench = Bench(CURL)
        wrong = [(0, -2), (-2,), (True,), (LikeOne(),), [1], (1, 1), (0,), CURL.regions, (-1, 1)]
        for value in no_strings_or_integers()[:-2] + wrong:
            if not (isinstance(value, tuple) and value.__class__ is tuple and len(value) == 1 and value[0].__class__ is int and value[0] == 1):
                self.assert_refused(bench, bench.turn_out, [value], ["region"], InvalidOutside, {"given": value})

    def test_nothing_to_undo(self):
        bench = Bench(CURL)
        self.assert_refused(bench, bench.undo, [], [], NothingToUndo, {})
        bench.move(LOOP)
        bench.undo()
        self.assert_refused(bench, bench.undo, [], [], NothingToUndo, {})


class Trials(unittest.TestCase):
    def setUp(self):
        self.bench = Bench(CURL)
        self.bench.move(LOOP)
        self.bench.turn_out(self.bench.drawing.regions[0])
        self.before = shown(self.bench)

    def change(self):
        self.bench.move(LOOP)
        self.bench.loosen()
        for _ in range(4):
            self.bench.undo()
        self.bench.turn_out((1,))
        return shown(self.bench)

    def test_as_it_was(self):
        with self.bench.trial():
            self.assertEqual(shown(self.bench), self.before)
            self.assertNotEqual(self.change(), self.before)
        self.assertEqual(shown(self.bench), self.before)
        self.bench.undo()
        self.bench.undo()
        self.assertEqual(self.bench.changes, 0)

    def test_as_it_was_when_the_trial_was_entered(self):
        trial = self.bench.trial()
        self.bench.move(LOOP)
        before = shown(self.bench)
        with trial:
            self.change()
        self.assertEqual(shown(self.bench), before)

    def test_errors_pass(self):
        error = KeyError("x")
        with self.assertRaises(KeyError) as caught:
            with self.bench.trial():
                self.change()
                raise error
        self.assertIs(caught.exception, error)
        self.assertEqual(shown(self.bench), self.before)
        for kind in (InvalidMove, NothingToUndo, TooMany):
            with self.assertRaises(kind):
                with self.bench.trial():
                    self.change()
                    raise kind() if kind is NothingToUndo else kind(5)
            self.assertEqual(shown(self.bench), self.before)

    def test_ended_early(self):
        def left():
            for _ in range(2):
                with self.bench.trial():
                    self.change()
                    return 7
        self.assertEqual(left(), 7)
        self.assertEqual(shown(self.bench), self.before)

    def test_within_one_another(self):
        with self.bench.trial():
            self.bench.move(LOOP)
            middle = shown(self.bench)
            with self.bench.trial():
                self.change()
            self.assertEqual(shown(self.bench), middle)
            with self.assertRaises(ValueError):
                with self.bench.trial():
                    self.change()
                    raise ValueError
            self.assertEqual(shown(self.bench), middle)
        self.assertEqual(shown(self.bench), self.before)

    def test_one_trial_entered_again_while_it_is_open(self):
        trial = self.bench.trial()
        with trial:
            self.bench.move(LOOP)
            middle = shown(self.bench)
            with trial:
                self.change()
                inner = shown(self.bench)
                with trial:
                    self.bench.undo()
                self.assertEqual(shown(self.bench), inner)
            self.assertEqual(shown(self.bench), middle)
        self.assertEqual(shown(self.bench), self.before)
        self.bench.move(LOOP)
        before = shown(self.bench)
        with trial:
            self.change()
        self.assertEqual(shown(self.bench), before)

    def test_tried(self):
        told = []
        self.assertEqual(self.bench.tried(lambda bench: (told.append(bench), self.change(), bench.turns)[2]), -2)
        self.assertIs(told[0], self.bench)
        self.assertEqual(shown(self.bench), self.before)
        self.assertIs(self.bench.tried(action=Bench.undo), None)
        self.assertEqual(shown(self.bench), self.before)

    def test_errors_of_what_is_tried_pass(self):
        def refused(bench):
            self.change()
            bench.move(None)
        self.assertIsInstance(raised(self.bench.tried, [refused]), InvalidMove)
        self.assertEqual(shown(self.bench), self.before)
        self.assertIsInstance(raised(self.bench.tried, [lambda bench: [bench.undo() for _ in range(9)]]), NothingToUndo)
        self.assertEqual(shown(self.bench), self.before)

    def test_tried_within_what_is_tried(self):
        def outer(bench):
            bench.move(LOOP)
            middle = shown(bench)
            told = bench.tried(lambda again: (self.change(), again.changes)[1])
            self.assertEqual(shown(bench), middle)
            return told
        self.assertEqual(self.bench.tried(outer), 2)
        self.assertEqual(shown(self.bench), self.before)

    def test_two_benches(self):
        other = Bench(THREE)
        with self.bench.trial():
            other.loosen()
            self.change()
        self.assertEqual([shown(self.bench) == self.before, other.changes], [True, 1])


class Equality(unittest.TestCase):
    def test_just_itself(self):
        bench, other = Bench(CURL), Bench(CURL)
        self.assertTrue(bench == bench and not bench != bench)
        self.assertTrue(bench != other and not bench == other)
        for value in no_strings_or_integers() + [CURL, "aa + -1", Touchy(), EqualToAll()]:
            self.assertIs(bench == value, False)
            self.assertIs(bench != value, True)
        self.assertIs(CURL == bench, False)
        self.assertTrue(bench)
