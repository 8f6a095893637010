"""What the interface says of the numbers of handles, gone through for all rows with few letters."""

import itertools
import unittest

from selfcrossed.flat import flat_sides, handles, is_flat, regions
from selfcrossed.handles import (
    first_sides, greatest_handles, handles_spread, least_handles, one_region, two_shades,
)
from tests.few import all_sides, few_rows, regions_by_corners, some_rows

EIGHT = "abcdefghabcdefgh"
EIGHT_APART = "hhaabbccddeeffgg"
TEN = "abcdefghijabcdefghij"


def shades_by_hand(row, sides):
    """Whether some shades of the regions are as asked, all of them being tried."""
    found = regions_by_corners(row, sides)
    pairs = []
    for edge in range(len(row)):
        pairs.append([index for element in (edge, -1 - edge) for index, region in enumerate(found) if element in region])
    for shades in itertools.product((0, 1), repeat=len(found)):
        if all(shades[one] != shades[other] for one, other in pairs):
            return True
    return False


class OneByOne(unittest.TestCase):
    def test_numbers_are_those_of_all_sides(self):
        for row in some_rows():
            told = [handles(row, sides) for sides in all_sides(len(row) // 2)]
            self.assertEqual([least_handles(row), greatest_handles(row)], [min(told), max(told)])
            self.assertEqual(handles_spread(row), tuple([told.count(number) for number in range(max(told) + 1)]))
            self.assertEqual(sum(handles_spread(row)), len(told))
            self.assertEqual(least_handles(row) == 0, is_flat(row))
            self.assertEqual(handles_spread(row)[0], len(flat_sides(row)))

    def test_each_number_between_is_had(self):
        for row in some_rows():
            spread = handles_spread(row)
            self.assertNotIn(0, spread[least_handles(row):])
            self.assertEqual(set(spread[:least_handles(row)]) | {0}, {0})

    def test_first_sides(self):
        for row in few_rows(4):
            for number in range(11):
                told = [sides for sides in all_sides(len(row) // 2) if handles(row, sides) == number]
                self.assertEqual(first_sides(row, number), told[0] if told else None)

    def test_one_region(self):
        for row in some_rows():
            told = [sides for sides in all_sides(len(row) // 2) if len(regions(row, sides)) == 1]
            self.assertEqual(one_region(row), told[0] if told else None)
            if len(row) % 4 == 2:
                self.assertEqual(one_region(row) is not None, 2 * greatest_handles(row) == len(row) // 2 + 1)

    def test_one_region_is_found_for_some(self):
        self.assertEqual(len([row for row in few_rows(3) if one_region(row) is not None]) > 0, True)
        self.assertEqual(one_region("abacbc"), first_sides("abacbc", 2))

    def test_two_shades(self):
        for row in few_rows(4):
            for sides in all_sides(len(row) // 2):
                self.assertIs(two_shades(row, sides), shades_by_hand(row, sides))
                if handles(row, sides) == 0:
                    self.assertIs(two_shades(row, sides), True)


class Edges(unittest.TestCase):
    def test_one_letter(self):
        self.assertEqual([least_handles("jj"), greatest_handles("jj"), handles_spread("jj")], [0, 0, (2,)])
        self.assertEqual([first_sides("jj", 0), first_sides("jj", 1), first_sides("jj", 10), one_region("jj")], ["+", None, None, None])
        self.assertEqual([two_shades("jj", "+"), two_shades("jj", "-")], [True, True])

    def test_eight_letters(self):
        self.assertEqual([least_handles(EIGHT_APART), greatest_handles(EIGHT_APART), handles_spread(EIGHT_APART)], [0, 0, (256,)])
        told = [handles(EIGHT, sides) for sides in all_sides(8)]
        self.assertEqual([least_handles(EIGHT), greatest_handles(EIGHT)], [min(told), max(told)])
        self.assertEqual(first_sides(EIGHT, max(told)), all_sides(8)[told.index(max(told))])
        self.assertEqual([sum(handles_spread(EIGHT)), one_region(EIGHT), first_sides(EIGHT_APART, 0)], [256, None, "++++++++"])

    def test_two_shades_with_ten_letters(self):
        self.assertIs(two_shades("jjiihhggffeeddccbbaa", "+-" * 5), True)
        self.assertIs(two_shades(TEN, "+" * 10), shades_by_hand(TEN, "+" * 10))

    def test_by_name(self):
        self.assertEqual([least_handles(row="abab"), greatest_handles(row="abacbc"), handles_spread(row="aa")], [1, 2, (2,)])
        self.assertEqual([first_sides(number=0, row="abcabc"), one_region(row="abab"), two_shades(sides="++", row="abab")], ["+-+", None, False])
