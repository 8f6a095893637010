"""What [25] says of the checker: just the papers that are told are taken, and any other values raise nothing."""

import ast
import itertools
import pathlib
import subprocess
import sys
import unittest

from selfcrossed.checker import accepts
from selfcrossed.drawings import Drawing, begun_at, mirror, turned_out, walked_back
from selfcrossed.flat import flat_sides
from selfcrossed.moves import done, ins, outs
from selfcrossed.numbers import opposite_way, region_numbers, same_way, three_ways, turns
from selfcrossed.rows import letters, nth_row
from selfcrossed.turnings import count_rounds, rounds
from tests.few import all_sides, drawings_with, few_drawings, few_rows, rows_with
from tests.kinds import (
    EqualToAll, LikeOne, Plain, Touchy, nested, no_strings_or_integers, some_integers, some_strings,
)
from tests.papers import WORDS, is_paper
from tests.pictures import Numbers
from tests.several import few_lines, lines_with

FOLDER = pathlib.Path(__file__).resolve().parent.parent
CURL = Drawing("aa", "+", -1)
EIGHT = Drawing("aa", "+", 0)
THREE = Drawing("abcabc", "+-+", -5)
TEN = "abcdefghijabcdefghij"
TEN_APART = "jjiihhggffeeddccbbaa"
SIZES = {
    "flat": 2, "not flat": 2, "handles": 3, "all handles": 3, "same": 3, "unlike": 3, "rounds": 4, "one web": 3, "led": 3, "turns": 3, "same way": 3,
    "opposite way": 3, "three ways": 3, "apart": 3, "at least": 4, "fewest out": 3, "lines flat": 2,
}
# For each word claims that are so with papers for them.
RIGHT = {
    "flat": [(("flat", "aabb"), "+-"), (("flat", "abcabc"), "-+-"), (("flat", TEN_APART), "+" * 10)],
    "not flat": [(("not flat", "abab"), "b"), (("not flat", "abcabdecde"), "ad"), (("not flat", TEN), "j")],
    "handles": [(("handles", "abab", 1), "++"), (("handles", "aa", 0), "-"), (("handles", TEN, 1), "+-" * 4 + "++")],
    "all handles": [(("all handles", "abab", 1), ()), (("all handles", "abcdefabcdef", 1), ())],
    "same": [(("same", "abba", "aabb"), (1, 1, "ba")), (("same", "aa", "jj"), (0, -1, "j")), (("same", TEN, TEN), (0, 1, "abcdefghij"))],
    "unlike": [(("unlike", "abba", "abab"), ()), (("unlike", "aa", TEN), ())],
    "rounds": [(("rounds", "abcabc", "ooo", 2), ((-6, -2, -4), (-5, -1, -3))), (("rounds", "aa", "o", 2), ((-2,), (-1,)))],
    "one web": [(("one web", "abcabc", "abacbc"), ("==x", (2, 1, "cab"))), (("one web", "aa", "bb"), ("=", (0, 1, "b")))],
    "led": [(("led", "aa + -1", "abcabc +-+ -5"), (("pair", 0, -2, 0),)), (("led", "aa + -1", "aa - 0"), ())],
    "turns": [(("turns", "abcabc +-+ -5", 2), (1, 0, 1, 1, 2)), (("turns", "aa + -1", 2), (1, 0, 2))],
    "same way": [(("same way", "aa + -1", -2), (1, 0, 2))],
    "opposite way": [(("opposite way", "aa + -1", -3), (1, 0, 2))],
    "three ways": [(("three ways", "aa + -1", 1), (1, 0, 2))],
    "apart": [(("apart", "aa + -1", "aa + -2"), ())],
    "at least": [(("at least", "aa + -1", "abcabc +-+ -5", 1), ((1, 0, 2), (1, 0, 1, 1, 2))), (("at least", "aa + -1", "aa + -1", 0), ((1, 0, 2), (1, 0, 2)))],
    "fewest out": [(("fewest out", "abab", 1), "b"), (("fewest out", "abcabc", 0), ""), (("fewest out", "abcdefabcdef", 1), "f")],
    "lines flat": [(("lines flat", ("ab", "ab")), "+-"), (("lines flat", ("aabb",)), "++"), (("lines flat", ("abcdefghij", "abcdefghij")), "+-" * 5)],
}


def all_right():
    return [pair for word in RIGHT for pair in RIGHT[word]]


def odd_values():
    return no_strings_or_integers() + some_strings() + some_integers() + [
        EqualToAll(), LikeOne(), Touchy(), Plain(), nested(20), (Touchy(),), (EqualToAll(),), ((), ()), ((((),),),), "aa", "aa + -1", ("aa",), CURL, 1j,
        [[[[[]]]]], {"a": {"b": ()}}, (1, 2, 3), ("loop", 0, "l"), (("loop", 0, "l"),), (("loop", Touchy(), "l"),), (("pair", 0, LikeOne(), 0),), (("no loop", EqualToAll()),),
        (("three", True),), (("no pair", "a", Touchy()),), ((Touchy(), 0),), (("loop", 0, EqualToAll()),), ("=", Touchy()), (0, 1, Touchy()), (0, True, "a"),
    ]


class Taken(unittest.TestCase):
    def assert_as_told(self, claim, paper):
        self.assertIs(accepts(claim, paper), is_paper(claim, paper), f"{claim} {paper}")

    def test_right_ones(self):
        self.assertEqual(sorted(RIGHT), sorted(WORDS))
        for claim, paper in all_right():
            self.assertIs(accepts(claim, paper), True, f"{claim} {paper}")
            self.assertIs(accepts(paper=paper, claim=claim), True)
            self.assertTrue(is_paper(claim, paper), f"{claim} {paper}")

    def test_sides(self):
        for row in few_rows(3) + few_rows(4)[::17]:
            number = len(row) // 2
            for sides in all_sides(number) + all_sides(number - 1) + all_sides(number + 1)[:2]:
                self.assert_as_told(("flat", row), sides)
                for many in range(-1, number + 2):
                    self.assert_as_told(("handles", row, many), sides)

    def test_all_handles(self):
        for row in few_rows(3) + few_rows(4)[::9] + rows_with(5)[::101] + rows_with(6)[::2999]:
            for many in range(-1, 4):
                self.assert_as_told(("all handles", row, many), ())

    def test_not_flat(self):
        for row in few_rows(3) + few_rows(4)[::7] + rows_with(5)[::199]:
            own = letters(row)
            for many in range(len(own) + 1):
                for text in itertools.product(own, repeat=many) if len(own) < 5 else itertools.permutations(own, many):
                    self.assert_as_told(("not flat", row), "".join(text))
            self.assert_as_told(("not flat", row), "z")
            # No paper for a flat row is taken.
            if flat_sides(row):
                self.assertIs(accepts(("not flat", row), own), False)

    def test_odd_rounds(self):
        found = 0
        for row in rows_with(5)[::3]:
            for many in (3, 4, 5):
                for text in list(itertools.permutations(letters(row), many))[::3]:
                    self.assert_as_told(("not flat", row), "".join(text))
                    found += accepts(("not flat", row), "".join(text))
        self.assertGreater(found, 10)
        # These rows are told not to be flat by odd rounds alone.
        for row, right in (("abcdeafcbedf", "abd"), ("abcdefbadcfe", "ace")):
            for text in itertools.permutations(letters(row), 3):
                self.assert_as_told(("not flat", row), "".join(text))
            self.assertIs(accepts(("not flat", row), right), True)

    def test_same_lines(self):
        rows = few_rows(2) + rows_with(3)[::4]
        for one, other in itertools.product(rows, rows):
            self.assert_as_told(("unlike", one, other), ())
            own = sorted(set(other))
            for place in range(-1, len(one) + 1):
                for way in (-2, -1, 0, 1, 2):
                    for names in itertools.permutations(own):
                        self.assert_as_told(("same", one, other), (place, way, "".join(names)))

    def test_rounds(self):
        for row in few_rows(2) + few_rows(3)[::5]:
            for turnings in itertools.product("=ox", repeat=len(row) // 2):
                turnings = "".join(turnings)
                told = rounds(row, turnings)
                for number in range(len(told) + 2):
                    self.assert_as_told(("rounds", row, turnings, number), told)
                near = [told[::-1], told[:-1], told + told[:1], tuple([each[::-1] for each in told]), tuple([each[1:] + each[:1] for each in told]), list(told)]
                near += [tuple([tuple([-1 - part for part in each]) for each in told]), tuple([list(each) for each in told])]
                for paper in near:
                    self.assert_as_told(("rounds", row, turnings, count_rounds(row, turnings)), paper)

    def test_rounds_of_true(self):
        self.assertIs(accepts(("rounds", "aa", "=", 1), ((-2, -1),)), True)
        for paper in (((-2, LikeOne()),), ((-2, -1.5j),), ((-2, -1), ()), ((True,),), ((False, 1),)):
            self.assertIs(accepts(("rounds", "aa", "=", 1), paper), False)

    def test_one_web(self):
        for one, other in itertools.product(rows_with(2) + rows_with(3)[::3], rows_with(2) + rows_with(3)[::4]):
            for turnings in itertools.product("=ox", repeat=len(one) // 2):
                for place in range(0, len(one), 2):
                    for way in (-1, 1):
                        self.assert_as_told(("one web", one, other), ("".join(turnings), (place, way, letters(other))))

    def test_moves(self):
        for drawing in few_drawings(1) + few_drawings(2)[::5] + few_drawings(3)[::61] + few_drawings(4)[::1501]:
            for move in outs(drawing) + ins(drawing)[::3]:
                behind = done(drawing, move)
                for other in (behind, begun_at(behind, len(behind.row) // 2), walked_back(behind), mirror(behind), turned_out(behind, behind.regions[0]), drawing):
                    self.assert_as_told(("led", drawing.text, other.text), (move,))

    def test_each_move_leads_where_it_is_told(self):
        for drawing in few_drawings(2)[::3] + few_drawings(3)[::31] + drawings_with(4)[::97] + drawings_with(5)[::811]:
            for move in outs(drawing) + ins(drawing)[::2]:
                self.assertIs(accepts(("led", drawing.text, done(drawing, move).text), (move,)), True)

    def test_moves_that_are_none(self):
        small = [-7, -3, -1, 0, 1, 2, 5, 6, "a", "b", "c", "l", "r", "", True]
        for drawing in (CURL, EIGHT, THREE, Drawing.read("aabb ++ 1"), Drawing.read("aabbcc +-+ -1")):
            right = outs(drawing) + ins(drawing)
            for word in ("loop", "no loop", "pair", "no pair", "three", "", "two"):
                for many in (0, 1, 2, 3):
                    for rest in list(itertools.product(small, repeat=many))[::1 if many < 3 else 7]:
                        move = (word, *rest)
                        is_right = move in right and not [part for part in move if part is True]
                        goal = done(drawing, move) if is_right else drawing
                        self.assertIs(accepts(("led", drawing.text, goal.text), (move,)), is_right, f"{drawing.text} {move}")

    def test_many_moves(self):
        there_and_back = (("loop", 0, "l"), ("no loop", "b"))
        self.assertIs(accepts(("led", "aa + -1", "aa + -1"), there_and_back * 30), True)
        self.assertIs(accepts(("led", "aa + -1", "aa + -1"), there_and_back * 31), False)
        self.assertIs(accepts(("led", "aa + -1", "abba +- -3"), there_and_back * 30 + there_and_back[:1]), False)
        self.assertIs(accepts(("led", "aa + -1", "abba +- -3"), there_and_back * 29 + there_and_back[:1]), True)

    def test_ways_of_moves(self):
        numbers = Numbers(25)
        for drawing in few_drawings(2)[::4] + drawings_with(3)[::29]:
            now, moves = drawing, ()
            for _ in range(8):
                choice = outs(now) + (ins(now) if now.size < 7 else ())
                if choice:
                    moves += (choice[numbers.below(len(choice))],)
                    now = done(now, moves[-1])
            self.assertIs(accepts(("led", drawing.text, now.text), moves), True)
            self.assert_as_told(("led", drawing.text, now.text), moves[:-1])
            self.assert_as_told(("led", drawing.text, drawing.text), moves)
            self.assert_as_told(("led", drawing.text, now.text), moves + (None,))

    def test_numbers_of_drawings(self):
        told = {"turns": turns, "same way": same_way, "opposite way": opposite_way, "three ways": three_ways}
        for drawing in few_drawings(2) + few_drawings(3)[::7] + drawings_with(5)[::997]:
            numbers = region_numbers(drawing)
            near = [numbers, numbers[::-1], numbers[1:], numbers + (0,), list(numbers), tuple([number + 1 for number in numbers]), tuple([-number for number in numbers])]
            near += [tuple([LikeOne() if number == 1 else number for number in numbers]), tuple([True if number == 1 else number for number in numbers])]
            for word in told:
                number = told[word](drawing)
                for paper in near:
                    self.assert_as_told((word, drawing.text, number), paper)
                for other in (number + 1, -number - 3, 1000, -1000, True):
                    self.assertIs(accepts((word, drawing.text, other), numbers), other is not True and other == number)

    def test_apart_and_at_least(self):
        drawings = few_drawings(1) + few_drawings(2)[::4] + few_drawings(3)[::97]
        for one, other in itertools.product(drawings, drawings):
            self.assert_as_told(("apart", one.text, other.text), ())
            paper = (region_numbers(one), region_numbers(other))
            for number in (-1, 0, 1, 2, 3, 5, 8, 1000):
                self.assert_as_told(("at least", one.text, other.text, number), paper)
            self.assert_as_told(("at least", one.text, other.text, 0), paper[::-1])
            self.assert_as_told(("at least", one.text, other.text, 0), paper[:1])
            self.assert_as_told(("at least", one.text, other.text, 0), paper + ((),))

    def test_fewest_out(self):
        for row in few_rows(3) + few_rows(4)[::13] + rows_with(5)[::311] + rows_with(6)[::4999]:
            own = letters(row)
            for many in range(len(own) + 1):
                for lot in itertools.combinations(own, many):
                    for number in (many - 1, many, many + 1):
                        self.assert_as_told(("fewest out", row, number), "".join(lot))
        for paper in ("ba", "aa", "ab ", "AB", "ak", "", "a"):
            self.assert_as_told(("fewest out", "abacbdcd", 2), paper)

    def test_lines_flat(self):
        for lines in few_lines(2) + lines_with(3)[::7] + lines_with(4)[::211]:
            number = len("".join(lines)) // 2
            for sides in all_sides(number) + all_sides(number - 1):
                self.assert_as_told(("lines flat", lines), sides)
        wrong = [
            (), ("",), ("aa", ""), ("ab",), ("aa", "a"), ("aaaa",), ("aa", "bb", "cc", "dd"), ["aa"], ("AA",), ("a", "b"), "aa", ("aa", 1), (Touchy(),),
            ("abcdefghijk", "abcdefghijk"), ("a" * 8000,), ("aakk",), (("aa",),),
        ]
        for lines in wrong:
            for paper in ("+", "++", "+++", "", None):
                self.assertIs(accepts(("lines flat", lines), paper), False)


class Bounds(unittest.TestCase):
    def test_letters(self):
        eleven = "abcdefghijkabcdefghijk"
        for word, claims in RIGHT.items():
            for claim, paper in claims:
                for row in (eleven, "aabbccddeeffgghhiijjkk", "AA", "kk", "a", "", "aab", "aaaa", "abcdefghijabcdefghijaa"):
                    for at in range(1, len(claim)):
                        changed = claim[:at] + (row,) + claim[at + 1:]
                        self.assertIs(accepts(changed, paper), False, f"{changed}")

    def test_rows_to_be_tried(self):
        seven = "abcdefgabcdefg"
        self.assertEqual([accepts(("all handles", seven, 0), ()), accepts(("fewest out", seven, 0), ""), accepts(("flat", seven), "+-+-+-+")], [False, False, True])
        self.assertEqual([accepts(("handles", seven, 0), "+-+-+-+"), accepts(("all handles", "abcdefabcdef", 1), ())], [True, True])

    def test_numbers(self):
        for claim, paper in all_right():
            if claim.__class__ is tuple and claim[-1].__class__ is int:
                for number in (1001, -1001, 10 ** 59, -10 ** 59, True, False, None, str(claim[-1]), (claim[-1],), LikeOne(), EqualToAll(), Touchy(), claim[-1] + 0j):
                    self.assertIs(accepts((*claim[:-1], number), paper), False)

    def test_texts(self):
        wrong = ["aa + 0", "aa + -01", "aa +  -1", "aa + -1 ", " aa + -1", "aa + -1\n", "aa - -1 0", "aa + 1.0", "AA + -1", "aa ++ -1", "abab ++ 3", "aa + -3", "aa", "", "  "]
        for text in wrong:
            for claim in (("turns", text, 2), ("three ways", text, 1), ("same way", text, -2), ("opposite way", text, -3)):
                self.assertIs(accepts(claim, (1, 0, 2)), False)
            for claim in (("led", text, "aa + -1"), ("led", "aa + -1", text), ("apart", text, "aa + -2"), ("apart", "aa + -2", text)):
                self.assertIs(accepts(claim, ()), False)
            self.assertIs(accepts(("at least", text, "aa + -1", 0), ((1, 0, 2), (1, 0, 2))), False)


class AnyValues(unittest.TestCase):
    def test_claims(self):
        for value in odd_values():
            for paper in ((), "+", None, Touchy()):
                self.assertIs(accepts(value, paper), False)
                self.assertIs(accepts((value,), paper), False)
                self.assertIs(accepts((value, "aa"), paper), False)

    def test_words_with_another_number_of_parts(self):
        for word in WORDS:
            for many in range(5):
                for part in ("aa", "aa + -1", 0, ()):
                    for paper in ((), "+", "a", ""):
                        if many + 1 != SIZES[word]:
                            self.assertIs(accepts((word,) + (part,) * many, paper), False)

    def test_parts_of_claims(self):
        for claim, paper in all_right():
            for at in range(len(claim)):
                for value in odd_values():
                    changed = claim[:at] + (value,) + claim[at + 1:]
                    told = accepts(changed, paper)
                    self.assertIn(told, (True, False))
                    if told:
                        self.assertTrue(value.__class__ in (int, str, tuple))
                        self.assertTrue(is_paper(changed, paper), f"{changed} {paper}")

    def test_papers(self):
        for claim, paper in all_right():
            for value in odd_values():
                told = accepts(claim, value)
                self.assertIn(told, (True, False))
                if told:
                    self.assertTrue(is_paper(claim, value), f"{claim} {value}")
            self.assertIs(accepts(list(claim), paper), False)
            self.assertIs(accepts(claim + (None,), paper), False)
            self.assertIs(accepts(claim[:-1], paper), False)

    def test_parts_of_papers(self):
        for claim, paper in all_right():
            if isinstance(paper, tuple):
                for at in range(len(paper)):
                    for value in odd_values():
                        changed = paper[:at] + (value,) + paper[at + 1:]
                        told = accepts(claim, changed)
                        self.assertIn(told, (True, False))
                        if told:
                            self.assertTrue(is_paper(claim, changed), f"{claim} {changed}")
                self.assertIs(accepts(claim, list(paper)), False)
                self.assertIs(accepts(claim, paper + (paper,)), False)

    def test_other_words(self):
        for claim, paper in all_right():
            for word in WORDS:
                changed = (word, *claim[1:])
                self.assertIs(accepts(changed, paper), is_paper(changed, paper), f"{changed} {paper}")
            for word in ("", "Flat", "flat ", "notflat", "fewest", "led to", "one web\n"):
                self.assertIs(accepts((word, *claim[1:]), paper), False)

    def test_ten_letters(self):
        for index in range(0, 654729075, 99999999):
            row = nth_row(10, index)
            self.assertIs(accepts(("flat", row), "+" * 10), is_paper(("flat", row), "+" * 10))
            self.assertIs(accepts(("not flat", row), "a"), is_paper(("not flat", row), "a"))


class Alone(unittest.TestCase):
    def test_imports(self):
        reached = ["checker"]
        for name in reached:
            tree = ast.parse((FOLDER / "selfcrossed" / f"{name}.py").read_text())
            for node in ast.walk(tree):
                if isinstance(node, ast.ImportFrom) and node.module.startswith("selfcrossed."):
                    other = node.module.split(".")[1]
                    self.assertTrue(other == "limits" or other.startswith("checked_"), other)
                    if other not in reached:
                        reached.append(other)
        self.assertIn("limits", reached)

    def test_nothing_else_is_loaded(self):
        code = "import sys; import selfcrossed.checker; print(sorted(name for name in sys.modules if name.startswith('selfcrossed.')))"
        told = subprocess.run([sys.executable, "-c", code], cwd=FOLDER, capture_output=True, text=True, check=True).stdout.strip()
        self.assertEqual(told, "['selfcrossed.checked_drawings', 'selfcrossed.checked_moves', 'selfcrossed.checked_rows', 'selfcrossed.checker', 'selfcrossed.limits']")
