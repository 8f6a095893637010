"""What the document promises over the whole program: bench, shelf, console and checker tell the same."""

import itertools
import unittest

from selfcrossed import errors
from selfcrossed.benches import Bench
from selfcrossed.certificates import (
    certify_flat, certify_handles, certify_led, certify_opposite_way, certify_rounds, certify_same, certify_same_way,
    certify_three_ways, certify_turns, certify_web,
)
from selfcrossed.checker import accepts
from selfcrossed.console import Console
from selfcrossed.drawings import Drawing, plain_drawing
from selfcrossed.numbers import region_numbers
from selfcrossed.rows import plain
from selfcrossed.shelves import Shelf
from tests.few import few_drawings, few_rows, rows_with
from tests.kinds import raised
from tests.pictures import Numbers, pictures
from tests.test_benches import change_somehow


def some_drawings():
    found = [Drawing(picture.row, picture.sides(), picture.outside()) for picture in pictures(40)]
    return few_drawings(2) + few_drawings(3)[::11] + found


class OneDrawing(unittest.TestCase):
    def test_all_tell_the_same(self):
        for drawing in some_drawings():
            bench, shelf, console = Bench(drawing), Shelf(), Console()
            shelf.put("d", drawing)
            console.run(f"drawing d {drawing.text}")
            told = {
                "turns": (bench.turns, certify_turns), "same way": (bench.same_way, certify_same_way),
                "opposite way": (bench.opposite_way, certify_opposite_way), "three ways": (bench.three_ways, certify_three_ways),
            }
            for word, (number, certify) in told.items():
                self.assertEqual(console.run(f"{word} d"), str(number))
                self.assertEqual(certify(drawing)[0], (word, drawing.text, number))
                self.assertIs(accepts((word, drawing.text, number), region_numbers(drawing)), True)
                self.assertIs(accepts((word, drawing.text, number + 1), region_numbers(drawing)), False)
                if word in ("turns", "three ways"):
                    shelf.claim((word, "d", number))
                    error = raised(shelf.claim, [(word, "d", number - 1)])
                    self.assertEqual([error.__class__, error.shown], [errors.Broken, number])
            self.assertEqual(console.run("regions d"), " ".join([str(number) for number in region_numbers(drawing)]))
            self.assertEqual([console.run("show d"), bench.drawing.text], [drawing.text, drawing.text])

    def test_led_by_hand(self):
        numbers = Numbers(3)
        for drawing in some_drawings()[::7]:
            bench, shelf, console = Bench(drawing), Shelf(), Console()
            for _ in range(6):
                before, deeds = bench.drawing, bench.deeds
                change_somehow(bench, numbers)
                new = bench.deeds[len(deeds):]
                if new:
                    self.assertIs(accepts(("led", before.text, bench.drawing.text), new), True)
                    self.assertEqual(certify_led(before, new), (("led", before.text, bench.drawing.text), new))
                shelf.put("now", bench.drawing)
                self.assertEqual(console.run(f"drawing now {bench.drawing.text}"), "ok")
                self.assertEqual([console.run("turns now"), console.run("three ways now")], [str(bench.turns), str(bench.three_ways)])
                self.assertTrue(shelf.thing("now") == console.shelf.thing("now") == bench.drawing)


class OneRow(unittest.TestCase):
    def test_all_tell_the_same(self):
        for row in few_rows(3) + rows_with(5)[::97] + ["abcabdecde", "abcdefgabcdefg"]:
            shelf, console = Shelf(), Console()
            shelf.put("r", row)
            console.run(f"row r {row}")
            (word, _), paper = certify_flat(row)
            self.assertEqual(console.run("flat r"), "yes" if word == "flat" else "no")
            self.assertEqual(console.run("why r"), "-" if word == "flat" else paper)
            shelf.claim((word, "r"))
            error = raised(shelf.claim, [("not flat" if word == "flat" else "flat", "r")])
            self.assertEqual([error.__class__, error.index], [errors.Broken, 1])
            # What is shown of a claim that does not hold is a paper for its opposite.
            self.assertIs(accepts((word, row), error.shown), True)
            number = certify_handles(row)[0][2]
            shelf.claim(("handles", "r", number))
            self.assertEqual(console.run("handles r"), str(number))
            error = raised(shelf.claim, [("handles", "r", number + 1)])
            self.assertEqual(error.shown, number)

    def test_rounds(self):
        for row in few_rows(2) + few_rows(3)[::9]:
            shelf, console = Shelf(), Console()
            shelf.put("r", row)
            console.run(f"row r {row}")
            for turnings in itertools.product("=ox", repeat=len(row) // 2):
                turnings = "".join(turnings)
                number = certify_rounds(row, turnings)[0][3]
                self.assertEqual(console.run(f"rounds r {turnings}"), str(number))
                shelf.claim(("rounds", "r", turnings, number))
                error = raised(shelf.claim, [("rounds", "r", turnings, number + 1)])
                self.assertEqual(error.shown, number)

    def test_two_rows(self):
        rows = rows_with(1) + rows_with(2) + rows_with(3)[::2]
        for one, other in itertools.product(rows, rows):
            shelf = Shelf()
            shelf.put("a", one)
            shelf.put("b", other)
            error = raised(shelf.claim, [("same", "a", "b")])
            claim, paper = certify_same(one, other)
            self.assertEqual(claim[0], "same" if error is None else "unlike")
            self.assertIs(accepts(claim, paper), True)
            if error is not None:
                self.assertEqual(error.shown, (plain(one), plain(other)))
            error = raised(shelf.claim, [("one web", "a", "b")])
            self.assertEqual(certify_web(one, other) is None, error is not None)


class TwoDrawings(unittest.TestCase):
    def test_same(self):
        drawings = few_drawings(1) + few_drawings(2)[::3] + few_drawings(3)[::97]
        for one, other in itertools.product(drawings, drawings):
            shelf = Shelf()
            shelf.put("a", one)
            shelf.put("b", other)
            error = raised(shelf.claim, [("same", "a", "b")])
            self.assertIs(accepts(("led", one.text, other.text), ()), error is None)
            if error is not None:
                self.assertEqual(error.shown, (plain_drawing(one).text, plain_drawing(other).text))
