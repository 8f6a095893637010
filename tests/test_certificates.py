"""What the interface says of certificates: each claim is so, and its paper is taken by the checker."""

import itertools
import unittest

from selfcrossed.certificates import (
    certify_apart, certify_flat, certify_handles, certify_least, certify_led, certify_lines, certify_opposite_way,
    certify_out, certify_rounds, certify_same, certify_same_way, certify_three_ways, certify_turns, certify_web,
)
from selfcrossed.checker import accepts
from selfcrossed.drawings import Drawing, walked_back
from selfcrossed.flat import is_flat
from selfcrossed.handles import least_handles
from selfcrossed.lines import are_flat
from selfcrossed.moves import done, ins, least_moves_of, led, outs
from selfcrossed.numbers import opposite_way, region_numbers, same_way, three_ways, turns
from selfcrossed.parts import fewest_out
from selfcrossed.rows import is_same
from selfcrossed.turnings import count_rounds, one_web, rounds
from tests.few import drawings_with, few_drawings, few_rows, rows_with
from tests.papers import is_paper
from tests.pictures import Numbers
from tests.several import few_lines, lines_with

CURL = Drawing("aa", "+", -1)
EIGHT = "abcdefghabcdefgh"
TEN = "abcdefghijabcdefghij"
TEN_APART = "jjiihhggffeeddccbbaa"


def some_rows():
    return few_rows(4)[::3] + rows_with(5)[::53] + rows_with(6)[::997]


def some_drawings():
    return few_drawings(2) + few_drawings(3)[::7] + drawings_with(4)[::97] + drawings_with(5)[::811]


class Certificates(unittest.TestCase):
    def assert_taken(self, told, claim):
        """It is this claim, and the checker and what is known besides take the paper."""
        self.assertEqual([told.__class__, len(told)], [tuple, 2])
        self.assertEqual(told[0], claim)
        self.assertIs(accepts(*told), True, f"{told}")
        self.assertTrue(is_paper(*told))

    def test_flat(self):
        for row in some_rows() + [TEN, TEN_APART, EIGHT, "abcdefghiabcdefghi"] + rows_with(5)[::7]:
            self.assert_taken(certify_flat(row), ("flat" if is_flat(row) else "not flat", row))

    def test_flat_in_all_three_ways(self):
        told = {"abab": 1, "abcabdecde": 2, "abcdeafcbedf": 3, "aabcdefgchedgfiijjhb": 3}
        for row, size in told.items():
            self.assert_taken(certify_flat(row), ("not flat", row))
            self.assertEqual(len(certify_flat(row)[1]), size)
        for row in ("abcadefghdicbfgieh", "abcdefbghhijdegcfaji", "aabcdefghdcijhgbefij", "abcdefgchijefhdgbaij"):
            self.assert_taken(certify_flat(row), ("not flat", row))

    def test_handles(self):
        for row in some_rows() + [EIGHT, "abcdefgabcdefg", "aabbccddeeffgghh", "abcdefgfbacegd"]:
            word = "handles" if len(row) > 12 else "all handles"
            self.assert_taken(certify_handles(row), (word, row, least_handles(row)))
            if word == "all handles":
                self.assertEqual(certify_handles(row)[1], ())

    def test_same(self):
        rows = few_rows(2) + few_rows(3)[::4]
        for one, other in itertools.product(rows, rows):
            self.assert_taken(certify_same(one, other), ("same" if is_same(one, other) else "unlike", one, other))
        self.assert_taken(certify_same(TEN, "jihgfedcbajihgfedcba"), ("same", TEN, "jihgfedcbajihgfedcba"))
        self.assert_taken(certify_same(TEN, TEN_APART), ("unlike", TEN, TEN_APART))

    def test_rounds(self):
        for row in few_rows(2) + few_rows(3)[::4] + rows_with(4)[::37]:
            for turnings in itertools.product("=ox", repeat=len(row) // 2):
                turnings = "".join(turnings)
                told = certify_rounds(row, turnings)
                self.assert_taken(told, ("rounds", row, turnings, count_rounds(row, turnings)))
                self.assertEqual(told[1], rounds(row, turnings))
        self.assert_taken(certify_rounds(TEN, "=oxo=xoxo="), ("rounds", TEN, "=oxo=xoxo=", count_rounds(TEN, "=oxo=xoxo=")))

    def test_web(self):
        rows = few_rows(2) + few_rows(3)[::4] + rows_with(4)[::29]
        for one, other in itertools.product(rows, rows):
            told = certify_web(one, other)
            self.assertEqual(told is not None, one_web(one, other))
            if told is not None:
                self.assert_taken(told, ("one web", one, other))
        self.assert_taken(certify_web("abcdefabcdef", "fedcbafedcba"), ("one web", "abcdefabcdef", "fedcbafedcba"))

    def test_numbers(self):
        for drawing in some_drawings():
            told = {
                certify_turns: ("turns", drawing.text, turns(drawing)), certify_same_way: ("same way", drawing.text, same_way(drawing)),
                certify_opposite_way: ("opposite way", drawing.text, opposite_way(drawing)), certify_three_ways: ("three ways", drawing.text, three_ways(drawing)),
            }
            for certify, claim in told.items():
                self.assert_taken(certify(drawing), claim)
                self.assertEqual(certify(drawing)[1], region_numbers(drawing))

    def test_apart_and_least(self):
        drawings = few_drawings(2)[::2] + few_drawings(3)[::43] + drawings_with(5)[::2099]
        for one, other in itertools.product(drawings, drawings):
            least = least_moves_of(one, other)
            if least is None:
                self.assertIsNone(certify_least(one, other))
                self.assert_taken(certify_apart(one, other), ("apart", one.text, other.text))
                self.assertEqual(certify_apart(one, other)[1], ())
            else:
                self.assertIsNone(certify_apart(one, other))
                self.assert_taken(certify_least(one, other), ("at least", one.text, other.text, sum(least)))

    def test_walked_back_is_not_apart(self):
        self.assertIsNone(certify_apart(CURL, walked_back(CURL)))
        self.assertEqual(certify_least(CURL, walked_back(CURL))[0], ("at least", "aa + -1", "aa - 0", 0))

    def test_led(self):
        numbers = Numbers(10)
        for drawing in some_drawings()[::3]:
            now, moves = drawing, ()
            self.assert_taken(certify_led(drawing, ()), ("led", drawing.text, drawing.text))
            for _ in range(7):
                choice = outs(now) + (ins(now) if now.size < 7 else ())
                if choice:
                    moves += (choice[numbers.below(len(choice))],)
                    now = done(now, moves[-1])
            self.assert_taken(certify_led(drawing, moves), ("led", drawing.text, now.text))
            self.assertEqual([certify_led(drawing, moves)[1], led(drawing, moves) == now], [moves, True])
        sixty = (("loop", 0, "l"), ("no loop", "b")) * 30
        self.assert_taken(certify_led(CURL, sixty), ("led", "aa + -1", "aa + -1"))

    def test_out(self):
        for row in few_rows(4)[::3] + rows_with(5)[::53] + rows_with(6)[::997]:
            told = certify_out(row)
            self.assert_taken(told, ("fewest out", row, len(fewest_out(row))))

    def test_lines(self):
        for lines in few_lines(2) + few_lines(3)[::7] + lines_with(4)[::97]:
            told = certify_lines(lines)
            self.assertEqual(told is not None, are_flat(lines))
            if told is not None:
                self.assert_taken(told, ("lines flat", lines))
        eight = ("abcdefgh", "abcdefgh")
        self.assert_taken(certify_lines(eight), ("lines flat", eight))

    def test_by_name(self):
        self.assertEqual([certify_flat(row="aa")[0], certify_handles(row="aa")[0], certify_out(row="aa")], [("flat", "aa"), ("all handles", "aa", 0), (("fewest out", "aa", 0), "")])
        self.assertEqual([certify_same(other="bb", one="aa")[0], certify_rounds(turnings="o", row="aa")[0], certify_web(other="aabb", one="aa")], [("same", "aa", "bb"), ("rounds", "aa", "o", 2), None])
        for certify in (certify_turns, certify_same_way, certify_opposite_way, certify_three_ways):
            self.assertEqual(certify(drawing=CURL), certify(CURL))
        self.assertEqual([certify_apart(other=CURL, one=CURL), certify_least(other=CURL, one=CURL)[0][3], certify_led(moves=(), drawing=CURL)[1]], [None, 0, ()])
        self.assertIsNone(certify_lines(lines=("a", "a")))
