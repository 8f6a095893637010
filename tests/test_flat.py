"""What [9] and [10] and the interface say of flat rows, gone through for all rows with few letters."""

import itertools
import unittest

from selfcrossed.flat import flat_by_links, flat_sides, handles, is_flat, regions, why_not
from selfcrossed.links import bunches
from selfcrossed.rows import nth_row
from tests.few import all_sides, few_rows, flat_choices, graph, regions_by_corners, renamed, rows_with, some_rows
from tests.pictures import pictures

TEN = "abcdefghijabcdefghij"
TEN_APART = "jjiihhggffeeddccbbaa"


def shared(linked, one, other):
    return len(linked[one] & linked[other])


def odd_letters(linked):
    return [letter for letter in sorted(linked) if len(linked[letter]) % 2 == 1]


def odd_pairs(linked):
    pairs = [pair for pair in itertools.combinations(sorted(linked), 2) if pair[1] not in linked[pair[0]]]
    return ["".join(pair) for pair in pairs if shared(linked, *pair) % 2 == 1]


def can_be_parted(linked):
    """Whether some lots are as the third rule asks, all lots being tried."""
    own = sorted(linked)
    for lots in itertools.product((0, 1), repeat=len(own)):
        lot = dict(zip(own, lots))
        pairs = [(one, other) for one in own for other in linked[one]]
        if all((lot[one] != lot[other]) == (shared(linked, one, other) % 2 == 0) for one, other in pairs):
            return True
    return False


def is_odd_round(linked, value):
    """Whether a string is such a round as [10] tells."""
    if len(value) < 3 or len(set(value)) < len(value):
        return False
    steps = list(zip(value, value[1:] + value[0]))
    if not all(other in linked[one] for one, other in steps):
        return False
    return len([step for step in steps if shared(linked, *step) % 2 == 0]) % 2 == 1


def turned_over(row, sides, letters):
    """The sides with those of these letters turned over."""
    own = sorted(set(row))
    return "".join(["+-"[(side == "+") == (letter in letters)] for letter, side in zip(own, sides)])


class Regions(unittest.TestCase):
    def test_all_sides(self):
        for row in few_rows(4):
            for sides in all_sides(len(row) // 2):
                self.assertEqual(regions(row, sides), regions_by_corners(row, sides))

    def test_each_edge_lies_in_them_once_each_way(self):
        for row in few_rows(4):
            for sides in all_sides(len(row) // 2):
                found = regions(row, sides)
                told = sorted([element for region in found for element in region])
                self.assertEqual(told, list(range(-len(row), len(row))))
                self.assertEqual([min(region) for region in found], [region[0] for region in found])
                self.assertEqual(list(found), sorted(found))

    def test_handles(self):
        for row in few_rows(4):
            for sides in all_sides(len(row) // 2):
                number = handles(row, sides)
                self.assertIs(type(number), int)
                self.assertGreaterEqual(number, 0)
                self.assertEqual(2 * number, len(row) // 2 + 2 - len(regions(row, sides)))

    def test_pictures(self):
        for picture in pictures(150):
            self.assertEqual(handles(picture.row, picture.sides()), 0)
            self.assertIn(picture.sides(), flat_sides(picture.row))
            self.assertIs(is_flat(picture.row), True)
            # Each region has one number of times that the line goes round it, wherever one looks.
            for region in regions(picture.row, picture.sides()):
                self.assertEqual(len({picture.times_round(picture.beside(element)) for element in region}), 1)


class Flat(unittest.TestCase):
    def assert_told_in_both_ways(self, row):
        linked = graph(row)
        by_rules = not odd_letters(linked) and not odd_pairs(linked) and can_be_parted(linked)
        self.assertIs(flat_by_links(row), by_rules)
        self.assertIs(is_flat(row), by_rules)
        self.assertEqual(flat_sides(row) != (), by_rules)

    def assert_why_not(self, row):
        linked = graph(row)
        told = why_not(row)
        if is_flat(row):
            self.assertIsNone(told)
        elif odd_letters(linked):
            self.assertEqual(told, odd_letters(linked)[0])
        elif odd_pairs(linked):
            self.assertEqual(told, odd_pairs(linked)[0])
        else:
            self.assertTrue(is_odd_round(linked, told), (row, told))

    def test_both_ways(self):
        for row in few_rows(5):
            self.assert_told_in_both_ways(row)

    def test_both_ways_with_six_letters(self):
        for row in rows_with(6)[::3]:
            self.assertIs(is_flat(row), flat_by_links(row))
        for row in rows_with(6)[::37]:
            self.assert_told_in_both_ways(renamed(row))

    def test_flat_sides_are_those_without_handles(self):
        for row in some_rows():
            self.assertEqual(list(flat_sides(row)), [sides for sides in all_sides(len(row) // 2) if handles(row, sides) == 0])
            self.assertEqual(list(flat_sides(row)), flat_choices(row))

    def test_flat_sides_by_bunches(self):
        for row in few_rows(5):
            if is_flat(row):
                found = flat_sides(row)
                parts = bunches(row)
                self.assertEqual(len(found), 2 ** len(parts))
                made = set()
                for chosen in itertools.product((False, True), repeat=len(parts)):
                    letters = "".join([part for part, is_chosen in zip(parts, chosen) if is_chosen])
                    made.add(turned_over(row, found[0], letters))
                self.assertEqual(made, set(found))

    def test_how_many_are_flat(self):
        self.assertEqual([len([row for row in rows_with(number) if is_flat(row)]) for number in range(1, 6)], [1, 2, 6, 24, 113])

    def test_why_not(self):
        for row in few_rows(5) + rows_with(6)[::5]:
            self.assert_why_not(row)

    def test_odd_rounds(self):
        # Rows whose letters and pairs are even all, so that a round must be told; they begin with six letters.
        rows = [row for row in rows_with(6) if why_not(row) is not None and len(why_not(row)) > 2]
        rows += [row for row in [nth_row(7, index) for index in range(0, 135135, 61)] if len(why_not(row) or "") > 2]
        self.assertGreater(len(rows), 0)
        for row in rows:
            self.assert_why_not(row)
            self.assert_why_not(renamed(row) if len(row) == 12 else row[::-1])
            self.assertIs(is_flat(row), False)


    def test_longer_odd_rounds(self):
        # Rows all of whose rounds are longer, or away from the first letter of their bunch.
        rows = [
            "abcadefgbcedgfhh", "abcdeafgbchedfgh", "abcadefghdicbfgieh", "abcdeafgbchigfdeih", "abcdefghicdifebahg",
            "abcdefbghhijdegcfaji", "abcdeafghcdijhgebfij", "aabcdefghdcijhgbefij", "abcdefgchijefhdgbaij",
        ]
        for row in rows:
            self.assertIs(is_flat(row), False)
            for place in range(len(row)):
                self.assert_why_not(row[place:] + row[:place])
                self.assert_why_not((row[place:] + row[:place])[::-1].replace("a", "x").replace("c", "a").replace("x", "c"))
        self.assertEqual({len(why_not(row)) for row in rows}, {3, 4, 5})


class Edges(unittest.TestCase):
    def test_one_letter(self):
        self.assertEqual([regions("jj", "+"), regions("jj", "-")], [((-2, 0), (-1,), (1,)), ((-2,), (-1, 1), (0,))])
        self.assertEqual([handles("jj", "-"), is_flat("jj"), flat_by_links("jj"), flat_sides("jj"), why_not("jj")], [0, True, True, ("+", "-"), None])

    def test_ten_letters(self):
        self.assertEqual([is_flat(TEN), flat_by_links(TEN), flat_sides(TEN), why_not(TEN)], [False, False, (), "a"])
        self.assertEqual([is_flat(TEN_APART), flat_by_links(TEN_APART), why_not(TEN_APART)], [True, True, None])
        self.assertEqual(flat_sides(TEN_APART), tuple(all_sides(10)))
        self.assertEqual([len(regions(TEN_APART, "+" * 10)), handles(TEN_APART, "-" * 10)], [12, 0])
        self.assertEqual(regions(TEN, "+-" * 5), regions_by_corners(TEN, "+-" * 5))

    def test_nine_letters_in_one_bunch(self):
        row = "abcdefghiabcdefghi"
        self.assertEqual([is_flat(row), flat_sides(row), why_not(row)], [True, ("+-+-+-+-+", "-+-+-+-+-"), None])

    def test_by_name(self):
        self.assertEqual([regions(sides="+", row="aa"), handles(sides="++", row="abab")], [((-2, 0), (-1,), (1,)), 1])
        self.assertEqual([is_flat(row="abab"), flat_by_links(row="abab"), flat_sides(row="abab"), why_not(row="abab")], [False, False, (), "a"])
