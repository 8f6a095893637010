"""What [8] and the interface say of links, gone through for all rows with few letters."""

import itertools
import unittest

from selfcrossed.links import (
    alike_rows, are_linked, between, bunches, hang_alike, linked_with, links, put_in, rank, table,
)
from selfcrossed.rows import lines_of, plain
from tests.few import are_linked_by_places, few_rows, graph, renamed, rows_with

TEN = "abcdefghijabcdefghij"
TEN_APART = "jjiihhggffeeddccbbaa"


def bunches_by_hand(row):
    """Each letter's bunch, reached by adding neighbours as long as there are any."""
    linked = graph(row)
    found = set()
    for letter in linked:
        bunch = {letter}
        while True:
            more = bunch.union(*[linked[each] for each in bunch])
            if more == bunch:
                break
            bunch = more
        found.add("".join(sorted(bunch)))
    return tuple(sorted(found))


def sums(rows):
    """All sums of rows of ones and noughts, of none, too."""
    found = {(0,) * len(rows)}
    for row in rows:
        found |= {tuple([(one + two) % 2 for one, two in zip(row, other)]) for other in found}
    return found


def hang_alike_by_hand(one, other):
    """Whether some naming carries the pairs of the one to just the pairs of the other."""
    own, others = sorted(set(one)), sorted(set(other))
    pairs = {frozenset(pair) for pair in itertools.combinations(own, 2) if are_linked_by_places(one, *pair)}
    told = {frozenset(pair) for pair in itertools.combinations(others, 2) if are_linked_by_places(other, *pair)}
    if len(own) != len(others) or len(pairs) != len(told):
        return False
    for order in itertools.permutations(others):
        given = dict(zip(own, order))
        if {frozenset([given[letter] for letter in pair]) for pair in pairs} == told:
            return True
    return False


def put_in_by_hand(row, place, other):
    """The other row put in, its letters changed one by one."""
    left = [letter for letter in "abcdefghij" if letter not in row]
    new = {}
    for letter in other:
        if letter not in new:
            new[letter] = left.pop(0)
    return row[:place] + "".join([new[letter] for letter in other]) + row[place:]


class OneByOne(unittest.TestCase):
    def test_links(self):
        for row in few_rows(4):
            own = sorted(set(row))
            pairs = [one + other for one, other in itertools.combinations(own, 2) if are_linked_by_places(row, one, other)]
            self.assertEqual(links(row), tuple(pairs))
            for letter in own:
                self.assertEqual(linked_with(row, letter), "".join(sorted(graph(row)[letter])))
                for other in own:
                    told = are_linked(row, letter, other)
                    self.assertIs(told, are_linked_by_places(row, letter, other))
                    self.assertIs(told, are_linked(row, other, letter))

    def test_between(self):
        for row in few_rows(4):
            for letter in set(row):
                parts = row.split(letter)
                self.assertEqual(between(row, letter), parts[1])

    def test_bunches(self):
        for row in few_rows(5):
            self.assertEqual(bunches(row), bunches_by_hand(row))

    def test_table_and_rank(self):
        for row in few_rows(5):
            own = sorted(set(row))
            linked = graph(row)
            rows = tuple([tuple([int(other in linked[letter]) for other in own]) for letter in own])
            self.assertEqual(table(row), rows)
            self.assertEqual(2 ** rank(row), len(sums(rows)))

    def test_put_in(self):
        for row in few_rows(3):
            for other in few_rows(2):
                for place in range(len(row)):
                    self.assertEqual(put_in(row, place, other), put_in_by_hand(row, place, other))

    def test_hang_alike(self):
        for number in range(1, 5):
            rows = list(lines_of(number)) + [renamed(line) for line in lines_of(number)]
            for one, other in itertools.product(rows, rows):
                self.assertIs(hang_alike(one, other), hang_alike_by_hand(one, other))

    def test_hang_alike_with_five_letters(self):
        rows = [renamed(row) for row in rows_with(5)[::90]]
        for one, other in itertools.product(rows, rows_with(5)[::35]):
            self.assertIs(hang_alike(one, other), hang_alike_by_hand(one, other))

    def test_alike_rows(self):
        for number in range(1, 5):
            for row in list(lines_of(number)) + [renamed(line) for line in rows_with(number)[::4]]:
                told = tuple([line for line in lines_of(number) if hang_alike_by_hand(row, line)])
                self.assertEqual(alike_rows(row), told)
                self.assertIn(plain(row), told)

    def test_alike_rows_part_the_lines_of_five_letters(self):
        lines = lines_of(5)
        lots = {alike_rows(line) for line in lines[::9]}
        for one, other in itertools.combinations(lots, 2):
            self.assertEqual(set(one) & set(other), set())
        for lot in lots:
            self.assertEqual(list(lot), sorted(lot))
            self.assertEqual([line for line in lines if hang_alike(lot[0], line)], list(lot))


class Edges(unittest.TestCase):
    def test_one_letter(self):
        self.assertEqual([links("jj"), bunches("jj"), linked_with("jj", "j"), between("jj", "j")], [(), ("j",), "", ""])
        self.assertEqual([table("jj"), rank("jj"), alike_rows("jj"), hang_alike("aa", "jj")], [((0,),), 0, ("aa",), True])
        self.assertEqual([put_in("jj", 0, "jj"), put_in("jj", 1, "jj"), put_in("aa", 1, "aa")], ["aajj", "jaaj", "abba"])
        self.assertIs(are_linked("jj", "j", "j"), False)

    def test_ten_letters(self):
        self.assertEqual([len(links(TEN)), links(TEN)[0], links(TEN)[-1], links(TEN_APART)], [45, "ab", "ij", ()])
        self.assertEqual([bunches(TEN), bunches(TEN_APART)], [("abcdefghij",), tuple("abcdefghij")])
        self.assertEqual([linked_with(TEN, "a"), linked_with(TEN, "j")], ["bcdefghij", "abcdefghi"])
        self.assertEqual([between(TEN, "a"), between(TEN, "j")], ["bcdefghij", "abcdefghi"])
        self.assertEqual([rank(TEN), rank(TEN_APART), table(TEN)[9]], [10, 0, (1,) * 9 + (0,)])
        self.assertEqual([are_linked(TEN, "a", "j"), are_linked(TEN_APART, "a", "j")], [True, False])

    def test_put_in_up_to_ten_letters(self):
        nine = "abcdefghiabcdefghi"
        self.assertEqual([put_in(nine, 0, "aa"), put_in(nine, 17, "cc")], ["jj" + nine, nine[:17] + "jji"])
        self.assertEqual(put_in("aa", 1, nine), "abcdefghijbcdefghija")

    def test_unlike_numbers_of_letters_do_not_hang_alike(self):
        self.assertEqual([hang_alike("aa", "aabb"), hang_alike("abcdeabcde", "abab")], [False, False])

    def test_five_letters_are_let(self):
        self.assertEqual(alike_rows("abcdeabcde"), ("abcdeabcde",))
        self.assertIs(hang_alike("abcdeabcde", "jihgfjihgf"), True)

    def test_by_name(self):
        self.assertIs(are_linked(other="b", letter="a", row="abab"), True)
        self.assertEqual([links(row="abab"), bunches(row="abab"), table(row="aa"), rank(row="abab")], [("ab",), ("ab",), ((0,),), 2])
        self.assertEqual([linked_with(letter="b", row="abab"), between(letter="a", row="abab")], ["a", "b"])
        self.assertEqual([put_in(other="aa", place=1, row="bb"), alike_rows(row="bb")], ["baab", ("aa",)])
        self.assertIs(hang_alike(other="aabb", one="abab"), False)
