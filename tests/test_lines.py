"""What [21] and the interface say of several lines, gone through for all lines with few letters."""

import itertools
import unittest

from selfcrossed.flat import flat_sides, handles, is_flat
from selfcrossed.lines import (
    are_even, are_flat, are_same_lines, flat_lines_sides, joined, least_lines_handles, lines_handles, parted, plain_lines,
    shared,
)
from selfcrossed.links import linked_with
from selfcrossed.rows import plain
from selfcrossed.turnings import count_rounds, tour
from tests.few import all_sides, few_rows, rows_with
from tests.pictures import Numbers
from tests.several import (
    few_lines, flat_choices_of_lines, handles_by_corners, lines_with, plain_by_hand, renamed_lines,
)

EIGHT = ("abcdefgh", "abcdefgh")
TEN = ("abcdefghij", "jihg", "fedcba")


def some_lines():
    return few_lines(3) + lines_with(4)[::37] + [renamed_lines(lines) for lines in lines_with(5)[::1009]]


def letter_kinds(lines):
    """The letters that stand in one line, and those that stand in two."""
    own = sorted(set("".join(lines)))
    twice = [letter for letter in own if any(line.count(letter) == 2 for line in lines)]
    return twice, [letter for letter in own if letter not in twice]


class Handles(unittest.TestCase):
    def test_all_sides(self):
        for lines in some_lines():
            for sides in all_sides(len("".join(lines)) // 2):
                self.assertEqual(lines_handles(lines, sides), handles_by_corners(lines, sides))

    def test_least_and_flat(self):
        for lines in some_lines():
            told = [handles_by_corners(lines, sides) for sides in all_sides(len("".join(lines)) // 2)]
            self.assertEqual(least_lines_handles(lines), min(told))
            self.assertEqual(flat_lines_sides(lines), tuple(flat_choices_of_lines(lines)))
            self.assertIs(are_flat(lines), 0 in told)

    def test_one_line_is_a_row(self):
        for row in few_rows(3):
            self.assertEqual(flat_lines_sides((row,)), flat_sides(row))
            self.assertIs(are_flat((row,)), is_flat(row))
            for sides in all_sides(len(row) // 2):
                self.assertEqual(lines_handles((row,), sides), handles(row, sides))

    def test_apart(self):
        # Lines without a letter in common have the handles of each one.
        for one, other in itertools.product(rows_with(2), rows_with(2)):
            lines = (one, other.replace("a", "d").replace("b", "c"))
            for sides in all_sides(4):
                self.assertEqual(lines_handles(lines, sides), handles(one, sides[:2]) + handles(other, sides[3] + sides[2]))

    def test_rings(self):
        # Two rings that cross four times.
        self.assertEqual([are_flat(("abcd", "abcd")), are_flat(("abcd", "acbd")), are_flat(("abcd", "dcba"))], [True, False, True])
        # Three each two of which cross twice, with a region within all of them and with one among them.
        self.assertEqual([are_flat(("acbd", "aebf", "cedf")), are_flat(("abcd", "abef", "dcef"))], [True, True])
        self.assertEqual(are_flat(("ab", "bc", "ca")), False)


class Even(unittest.TestCase):
    def test_by_hand(self):
        for lines in some_lines():
            told = all(len(set(one) & set(other)) % 2 == 0 for one, other in itertools.combinations(lines, 2))
            for line in lines:
                for letter in set(line):
                    if line.count(letter) == 2:
                        stretch = line[line.find(letter) + 1:line.rfind(letter)]
                        told = told and len([other for other in stretch if stretch.count(other) == 1]) % 2 == 0
            self.assertIs(are_even(lines), told)

    def test_flat_lines_are_even(self):
        for lines in few_lines(3) + lines_with(4)[::5]:
            if flat_choices_of_lines(lines):
                self.assertIs(are_even(lines), True)

    def test_some_even_ones_are_not_flat(self):
        self.assertIs(are_even(("abcd", "acbd")), True)


class Shared(unittest.TestCase):
    def test_all(self):
        for lines in some_lines():
            for one, other in itertools.permutations(range(len(lines)), 2):
                told = "".join(sorted(set(lines[one]) & set(lines[other])))
                self.assertEqual(shared(lines, one, other), told)


class JoinedAndParted(unittest.TestCase):
    def test_joined(self):
        for lines in some_lines():
            for letter in letter_kinds(lines)[1]:
                first, second = [index for index, line in enumerate(lines) if letter in line]
                one, other = lines[first], lines[second]
                from_behind = other[other.find(letter) + 1:] + other[:other.find(letter)]
                new = one[:one.find(letter)] + from_behind + one[one.find(letter) + 1:]
                if new:
                    told = [new if index == first else line for index, line in enumerate(lines) if index != second]
                    self.assertEqual(joined(lines, letter), tuple(told))

    def test_parted(self):
        for lines in some_lines():
            for letter in letter_kinds(lines)[0]:
                index = [index for index, line in enumerate(lines) if letter in line][0]
                ahead, inner, behind = lines[index].split(letter)
                told = [*lines[:index], ahead + behind, inner, *lines[index + 1:]]
                told = [line for line in told if line]
                if 0 < len(told) <= 3:
                    self.assertEqual(parted(lines, letter), tuple(told))

    def test_parted_lines_share_the_letters_linked_with_it(self):
        for row in few_rows(4):
            for letter in sorted(set(row)):
                linked = linked_with(row, letter)
                ahead, inner, behind = row.split(letter)
                if inner and ahead + behind:
                    self.assertEqual(shared(parted((row,), letter), 0, 1), linked)
                else:
                    self.assertEqual(linked, "")

    def test_joined_again(self):
        for row in few_rows(4):
            for letter in sorted(set(row)):
                for other in linked_with(row, letter):
                    lines = parted((row,), letter)
                    turnings = "".join(["o" if each in (letter, other) else "=" for each in sorted(set(row))])
                    if len(row) > 4:
                        made = joined(lines, other)
                        self.assertEqual(len(made), 1)
                        told = tour(row, turnings).replace(letter, "").replace(other, "")
                        self.assertEqual(plain(made[0]), plain(told))

    def test_flat_lines_stay_flat(self):
        for lines in few_lines(3) + lines_with(4)[::11]:
            if flat_choices_of_lines(lines):
                one_line, two_lines = letter_kinds(lines)
                for letter in one_line:
                    if len("".join(lines)) > 2 and len(lines) < 3:
                        self.assertIs(are_flat(parted(lines, letter)), True)
                for letter in two_lines:
                    if len("".join(lines)) > 2:
                        self.assertIs(are_flat(joined(lines, letter)), True)

    def test_as_many_lines_as_rounds(self):
        for row in few_rows(4):
            for letter in sorted(set(row)):
                turnings = "".join(["o" if each == letter else "=" for each in sorted(set(row))])
                self.assertEqual(count_rounds(row, turnings), 2)

    def test_a_piece_without_letters_goes(self):
        self.assertEqual([parted(("aabb",), "a"), parted(("abba",), "a"), parted(("aa", "bb"), "a")], [("bb",), ("bb",), ("bb",)])
        self.assertEqual([parted(("c", "abba", "c"), "a"), parted(("c", "bb", "c"), "b")], [("c", "bb", "c"), ("c", "c")])
        self.assertEqual(parted(("bb", "aca", "c"), "a"), ("bb", "c", "c"))

    def test_the_new_line_stands_where_the_first_one_was(self):
        self.assertEqual([joined(("bb", "ac", "ca"), "a"), joined(("ac", "bb", "ca"), "a")], [("bb", "cc"), ("cc", "bb")])
        self.assertEqual(joined(("ab", "cd", "acbd"), "c"), ("ab", "bdad"))


class Plain(unittest.TestCase):
    def test_all_ways(self):
        for lines in few_lines(2) + few_lines(3)[::13] + lines_with(4)[::797]:
            self.assertEqual(plain_lines(lines), plain_by_hand(lines))

    def test_one_line(self):
        for row in few_rows(4)[::3] + rows_with(6)[::1999]:
            self.assertEqual(plain_lines((row,)), (plain(row),))

    def test_what_is_the_same_has_one_plain_tuple(self):
        numbers = Numbers(7)
        for lines in lines_with(4)[::101] + lines_with(5)[::997] + [TEN, ("abcdefg", "hijabcd", "gjfeih")]:
            told = plain_lines(lines)
            self.assertEqual(list(told), sorted(told))
            self.assertEqual(plain_lines(told), told)
            for _ in range(5):
                other = changed(lines, numbers)
                self.assertEqual(plain_lines(other), told)
                self.assertIs(are_same_lines(lines, other), True)

    def test_same_ones(self):
        for one, other in itertools.product(lines_with(2), few_lines(2)):
            self.assertIs(are_same_lines(one, other), plain_by_hand(one) == plain_by_hand(other))

    def test_lines_of_unlike_lengths(self):
        self.assertIs(are_same_lines(("aab", "b"), ("ab", "ab")), False)
        self.assertIs(are_same_lines(("aa", "bb"), ("aabb",)), False)
        self.assertEqual([plain_lines(("bccb", "aa")), plain_lines(("ab", "a", "b"))], [("aa", "bbcc"), ("a", "ab", "b")])


def changed(lines, numbers):
    """The lines begun elsewhere, some read backwards, in another order and with other letters."""
    left = list("abcdefghij")
    letters = {}
    for letter in sorted(set("".join(lines))):
        letters[letter] = left.pop(numbers.below(len(left)))
    found = []
    for line in lines:
        place = numbers.below(len(line))
        way = line[place:] + line[:place]
        way = way[::-1] if numbers.below(2) else way
        found.insert(numbers.below(len(found) + 1), "".join([letters[letter] for letter in way]))
    return tuple(found)


class Edges(unittest.TestCase):
    def test_one_letter(self):
        self.assertEqual([are_flat(("jj",)), flat_lines_sides(("jj",)), lines_handles(("j", "j"), "-"), are_even(("jj",))], [True, ("+", "-"), 1, True])
        self.assertEqual([plain_lines(("j", "j")), shared(("j", "j"), 1, 0)], [("a", "a"), "j"])

    def test_eight_letters(self):
        self.assertEqual([flat_lines_sides(EIGHT), least_lines_handles(EIGHT)], [("+-+-+-+-", "-+-+-+-+"), 0])
        self.assertEqual(least_lines_handles(("abcdefgh", "hgfe", "dcba")), min([lines_handles(("abcdefgh", "hgfe", "dcba"), sides) for sides in all_sides(8)]))

    def test_ten_letters(self):
        self.assertEqual(lines_handles(("abcdefghij", "abcdefghij"), "+-" * 5), 0)
        self.assertEqual(lines_handles(TEN, "+" * 10), handles_by_corners(TEN, "+" * 10))
        self.assertEqual([are_even(TEN), shared(TEN, 0, 2), shared(TEN, 2, 1)], [True, "abcdef", ""])
        self.assertEqual(joined(TEN, "j"), ("abcdefghiihg", "fedcba"))

    def test_by_name(self):
        lines = ("ab", "ab")
        self.assertEqual([lines_handles(sides="++", lines=lines), least_lines_handles(lines=lines), are_flat(lines=lines)], [1, 0, True])
        self.assertEqual([flat_lines_sides(lines=lines), shared(second=0, first=1, lines=lines), are_even(lines=lines)], [("+-", "-+"), "ab", True])
        self.assertEqual([joined(letter="a", lines=lines), parted(letter="a", lines=("abab",))], [("bb",), ("b", "b")])
        self.assertEqual([plain_lines(lines=("ba", "ab")), are_same_lines(other=lines, one=("ba", "ba"))], [("ab", "ab"), True])
