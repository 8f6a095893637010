"""What [20] and the interface say of spreads, gone through for all rows with few letters."""

import itertools
import unittest
from fractions import Fraction

from selfcrossed.links import linked_with, rank
from selfcrossed.rows import is_same, letters
from selfcrossed.spreads import (
    chance_of_one, first_greatest, greatest_rounds, spread_along, spread_in_all, turned_at, value_at, without,
)
from selfcrossed.turnings import count_rounds, count_tours, tour, tours_along
from tests.few import are_linked_by_places, few_rows, renamed, rows_with
from tests.test_links import sums
from tests.test_turnings import all_turnings

EIGHT = "abcdefghabcdefgh"
EIGHT_APART = "hhaabbccddeeffgg"
TEN = "abcdefghijabcdefghij"
TEN_APART = "jjiihhggffeeddccbbaa"


def some_rows():
    return few_rows(3) + few_rows(4)[::3] + [renamed(row) for row in rows_with(5)[::201]]


def counts(row, kinds):
    """How many rounds each turnings of these kinds make."""
    return [count_rounds(row, "".join(turnings)) for turnings in itertools.product(kinds, repeat=len(row) // 2)]


def polynomial(told):
    """The polynomial that has for the power k how many are k + 1."""
    return tuple([told.count(number + 1) for number in range(max(told))])


def added(one, other):
    return tuple([a + b for a, b in itertools.zip_longest(one, other, fillvalue=0)])


def by_letters(row):
    """The spread along, letter by letter as [20] tells."""
    if row == "":
        return (1,)
    own = sorted(set(row))
    first = own[0]
    linked = [letter for letter in own if are_linked_by_places(row, first, letter)]
    if not linked:
        rest = by_letters(row.replace(first, ""))
        return added(rest, (0, *rest))
    turned = turned_at(row, first, linked[-1])
    return added(by_letters(row.replace(first, "")), by_letters(turned.replace(first, "")))


def struck(row):
    """How many rows of the table of links, with 1 where each letter meets itself, are struck as for `rank`."""
    own = sorted(set(row))
    rows = [tuple([int(one == other or are_linked_by_places(row, one, other)) for other in own]) for one in own]
    left = len(sums(rows)).bit_length() - 1
    return len(own) - left


class Spreads(unittest.TestCase):
    def test_all_turnings(self):
        for row in some_rows():
            self.assertEqual(spread_along(row), polynomial(counts(row, "=o")))
            self.assertEqual(spread_in_all(row), polynomial(counts(row, "=ox")))

    def test_values(self):
        for row in few_rows(4) + [renamed(row) for row in rows_with(5)[::31]]:
            number = len(row) // 2
            self.assertEqual(value_at(spread_along(row), 1), 2 ** number)
            self.assertEqual(value_at(spread_along(row), -2), (-1) ** number * (-2) ** struck(row))
            self.assertEqual(value_at(spread_along(row), 0), tours_along(row))

    def test_values_in_all(self):
        for row in few_rows(3) + few_rows(4)[::9]:
            self.assertEqual(value_at(spread_in_all(row), 1), 3 ** (len(row) // 2))
            self.assertEqual(value_at(spread_in_all(row), 0), count_tours(row))

    def test_letter_by_letter(self):
        for row in few_rows(4) + [renamed(row) for row in rows_with(5)[::31]]:
            self.assertEqual(spread_along(row), by_letters(row))

    def test_each_letter_and_pair(self):
        for row in few_rows(4)[::3]:
            for letter in letters(row):
                rest = row.replace(letter, "")
                if linked_with(row, letter) == "" and rest:
                    self.assertEqual(spread_along(row), added(spread_along(rest), (0, *spread_along(rest))))
                for other in linked_with(row, letter):
                    turned = turned_at(row, letter, other).replace(letter, "")
                    self.assertEqual(spread_along(row), added(spread_along(rest), spread_along(turned)))

    def test_greatest(self):
        for row in some_rows():
            told = [count_rounds(row, turnings) for turnings in all_turnings(len(row) // 2)]
            self.assertEqual(greatest_rounds(row), max(told))
            self.assertEqual(first_greatest(row), all_turnings(len(row) // 2)[told.index(max(told))])

    def test_chance_of_one(self):
        for row in some_rows():
            told = Fraction(count_tours(row), 3 ** (len(row) // 2))
            self.assertEqual(chance_of_one(row), (told.numerator, told.denominator))


class Rows(unittest.TestCase):
    def test_turned_at(self):
        for row in few_rows(4):
            own = sorted(set(row))
            for one, other in itertools.permutations(own, 2):
                if are_linked_by_places(row, one, other):
                    told = turned_at(row, one, other)
                    turnings = "".join(["o" if letter in (one, other) else "=" for letter in own])
                    self.assertTrue(is_same(told, tour(row, turnings)))
                    parts = row.replace(one, " ").replace(other, " ").split(" ")
                    self.assertEqual(told, "".join([
                        parts[0], row[len(parts[0])], parts[3], other if row[len(parts[0])] == one else one, parts[2],
                        row[len(parts[0])], parts[1], other if row[len(parts[0])] == one else one, parts[4],
                    ]))
                    self.assertEqual(turned_at(told, one, other), row)

    def test_without(self):
        for row in few_rows(4):
            own = sorted(set(row))
            for many in range(len(own)):
                for gone in itertools.permutations(own, many):
                    self.assertEqual(without(row, "".join(gone)), "".join([letter for letter in row if letter not in gone]))


class Values(unittest.TestCase):
    def test_values(self):
        for told in ((), (1,), (0, 1), (3, -2, 5), (-1, 0, 0, 0, 7), (10 ** 59, -(10 ** 59)), tuple(range(1, 200))):
            for number in (-10 ** 6, -7, -2, -1, 0, 1, 2, 10 ** 6):
                self.assertEqual(value_at(told, number), sum([factor * number ** power for power, factor in enumerate(told)]))

    def test_nothing(self):
        self.assertEqual([value_at((), 5), value_at((), -10 ** 6), value_at((0, 0, 1), 0)], [0, 0, 0])


class Edges(unittest.TestCase):
    def test_one_letter(self):
        self.assertEqual([spread_along("jj"), spread_in_all("jj"), greatest_rounds("jj"), first_greatest("jj"), chance_of_one("jj")], [(1, 1), (2, 1), 2, "o", (2, 3)])
        self.assertEqual(without("jj", ""), "jj")

    def test_eight_letters(self):
        self.assertEqual(spread_in_all(EIGHT_APART), (256, 1024, 1792, 1792, 1120, 448, 112, 16, 1))
        self.assertEqual([greatest_rounds(EIGHT_APART), first_greatest(EIGHT_APART), chance_of_one(EIGHT_APART)], [9, "o" * 8, (256, 6561)])
        told = [count_rounds(EIGHT, turnings) for turnings in all_turnings(8)]
        self.assertEqual([greatest_rounds(EIGHT), first_greatest(EIGHT)], [max(told), all_turnings(8)[told.index(max(told))]])
        self.assertEqual(spread_in_all(EIGHT), polynomial(told))

    def test_ten_letters(self):
        self.assertEqual(spread_along(TEN_APART), (1, 10, 45, 120, 210, 252, 210, 120, 45, 10, 1))
        self.assertEqual([spread_along(TEN), sum(spread_along(TEN))], [by_letters(TEN), 1024])
        self.assertEqual([turned_at(TEN, "a", "j"), without(TEN, "bcdefghij"), without(TEN, "jia")], [TEN, "aa", "bcdefghbcdefgh"])
        self.assertTrue(is_same(turned_at(TEN, "a", "j"), tour(TEN, "o========o")))

    def test_rank_and_tours_along(self):
        # Lines whose letters are all linked with one another.
        for number in range(1, 9):
            row = "abcdefgh"[:number] * 2
            self.assertEqual(rank(row), number - number % 2)
            self.assertEqual(spread_along(row), (2 ** (number - 1), 2 ** (number - 1)))

    def test_by_name(self):
        self.assertEqual([spread_along(row="aa"), spread_in_all(row="aa"), value_at(number=-2, polynomial=(4, 4))], [(1, 1), (2, 1), -4])
        self.assertEqual([turned_at(other="c", letter="b", row="abacbc"), without(letters="b", row="abcabc")], ["abcbac", "acac"])
        self.assertEqual([greatest_rounds(row="aabb"), first_greatest(row="aabb"), chance_of_one(row="aa")], [3, "oo", (2, 3)])
