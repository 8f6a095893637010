"""What the interface says of letters taken out and put in, gone through for all rows and drawings with few letters."""

import itertools
import unittest

from selfcrossed.drawings import Drawing
from selfcrossed.flat import flat_by_links, handles, is_flat
from selfcrossed.handles import least_handles
from selfcrossed.parts import (
    count_flat_parts, crossed_once, exchanges, fewest_out, flat_parts, handles_without, ways_in,
)
from selfcrossed.rows import is_same, letters, plain
from selfcrossed.spreads import without
from tests.few import few_drawings, few_rows, flat_choices, rows_with, renamed

EIGHT = "abcdefghabcdefgh"
EIGHT_APART = "hhaabbccddeeffgg"
TEN = "abcdefghijabcdefghij"
TEN_APART = "jjiihhggffeeddccbbaa"


def some_rows():
    return few_rows(4) + [renamed(row) for row in rows_with(5)[::31]]


def alone(row, lot):
    """The row of these letters alone."""
    return "".join([letter for letter in row if letter in lot])


def is_flat_or_nothing(row):
    return row == "" or bool(flat_choices(row))


def lots(row):
    """All strings of letters of the row, shorter ones first."""
    own = sorted(set(row))
    return ["".join(lot) for number in range(len(own) + 1) for lot in itertools.combinations(own, number)]


class TakenOut(unittest.TestCase):
    def test_fewest_out(self):
        for row in some_rows():
            told = [lot for lot in lots(row) if is_flat_or_nothing(row.translate({ord(letter): None for letter in lot}))]
            self.assertEqual(fewest_out(row), told[0])
            self.assertEqual(fewest_out(row) == "", is_flat(row))

    def test_flat_parts(self):
        for row in some_rows():
            flat = [lot for lot in lots(row)[1:] if flat_choices(alone(row, lot))]
            greatest = [lot for lot in flat if not [other for other in flat if set(lot) < set(other)]]
            self.assertEqual(flat_parts(row), tuple(sorted(greatest)))
            self.assertEqual(count_flat_parts(row), len(flat))

    def test_each_flat_part_is_flat_and_has_no_flat_one_above_it(self):
        for row in rows_with(6)[::997]:
            for part in flat_parts(row):
                self.assertTrue(flat_by_links(alone(row, part)))
                for more in lots("".join([letter for letter in letters(row) if letter not in part]))[1:]:
                    self.assertFalse(is_flat(alone(row, part + more)))

    def test_fewest_out_leaves_one_of_the_longest_flat_parts(self):
        for row in rows_with(5)[::17] + rows_with(6)[::499]:
            gone = fewest_out(row)
            rest = "".join([letter for letter in letters(row) if letter not in gone])
            self.assertIn(rest, flat_parts(row))
            self.assertEqual(len(rest), max([len(part) for part in flat_parts(row)]))

    def test_flat_parts_are_not_flat_with_one_letter_more_or_with_several(self):
        # Each two letters of this row are linked, so that it is flat with one letter, three, five.
        self.assertEqual(flat_parts("abcdabcd"), ("abc", "abd", "acd", "bcd"))
        self.assertEqual([flat_parts("abcabc"), count_flat_parts("abcabc")], [("abc",), 4])
        self.assertEqual([flat_parts("abcdeabcde"), count_flat_parts("abcdeabcde")], [("abcde",), 16])

    def test_handles_without(self):
        for row in some_rows():
            if len(row) > 2:
                told = [least_handles(without(row, letter)) for letter in letters(row)]
                self.assertEqual(handles_without(row), tuple(told))


class Exchanged(unittest.TestCase):
    def test_exchanges(self):
        for row in some_rows():
            told = []
            for place in range(len(row)):
                signs = list(row)
                following = (place + 1) % len(row)
                signs[place], signs[following] = signs[following], signs[place]
                if signs != list(row) and flat_choices("".join(signs)):
                    told.append(place)
            self.assertEqual(exchanges(row), tuple(told))

    def test_both_ends(self):
        self.assertEqual([exchanges("abba"), exchanges("abab"), exchanges("aabb")], [(), (0, 1, 2, 3), ()])
        # The last letter and the first one are exchanged, too.
        self.assertEqual([exchanges("cbcbaa"), exchanges("abcbca"), 5 in exchanges("bccaba")], [(0, 1, 2), (1, 2, 3), True])


class PutIn(unittest.TestCase):
    def test_ways_in(self):
        for drawing in few_drawings(3) + few_drawings(4)[::41]:
            told = [pair for pair in pairs(drawing) if is_way_by_regions(drawing, pair)]
            self.assertEqual(ways_in(drawing), tuple(told))

    def test_ways_go_to_flat_rows(self):
        for drawing in few_drawings(4)[::101]:
            new = [letter for letter in "abcdefghij" if letter not in drawing.row][0]
            for j, k in ways_in(drawing):
                self.assertTrue(flat_by_links(put(drawing.row, j, k, new)))
            # A small loop can be made on each edge.
            self.assertLessEqual({(k, k) for k in range(len(drawing.row))}, set(ways_in(drawing)))

    def test_ways_do_not_depend_on_the_outside(self):
        for drawing in few_drawings(3)[::7]:
            for region in drawing.regions:
                other = Drawing(drawing.row, drawing.sides, region[0])
                self.assertEqual(ways_in(other), ways_in(drawing))

    def test_nine_letters(self):
        nine = Drawing("abcdefghiabcdefghi", "+-+-+-+-+", 0)
        told = [pair for pair in pairs(nine) if is_way_by_regions(nine, pair)]
        self.assertEqual(ways_in(nine), tuple(told))

    def test_crossed_once(self):
        for row in few_rows(3) + few_rows(4)[::19]:
            told = [other for other in plain_flat_rows(len(row) // 2 + 1) if is_without_one(other, row)]
            self.assertEqual(crossed_once(row), tuple(told))

    def test_crossed_once_is_flat_and_the_line_without_a_letter(self):
        for row in rows_with(4)[::13] + rows_with(5)[::211] + ["abcdefgabcdefg", "aabbccddeeffgg"]:
            told = crossed_once(row)
            self.assertEqual(list(told), sorted(set(told)))
            for other in told:
                self.assertEqual(plain(other), other)
                self.assertTrue(flat_by_links(other))
                self.assertEqual(len(other), len(row) + 2)
                self.assertTrue(is_without_one(other, row))


def put(row, j, k, new):
    """The row with the letter behind both places."""
    return "".join([letter + new * ((place == j) + (place == k)) for place, letter in enumerate(row)])


def pairs(drawing):
    return list(itertools.combinations_with_replacement(range(len(drawing.row)), 2))


def is_way_by_regions(drawing, pair):
    """Whether some side of a new letter makes sides without handles, the letters being told one by one."""
    new = [letter for letter in "abcdefghij" if letter not in drawing.row][0]
    row = put(drawing.row, pair[0], pair[1], new)
    side_of = dict(zip(sorted(set(drawing.row)), drawing.sides))
    for side in "+-":
        side_of[new] = side
        if handles(row, "".join([side_of[letter] for letter in sorted(side_of)])) == 0:
            return True
    return False


def plain_flat_rows(number):
    return sorted({plain(row) for row in rows_with(number) if flat_choices(row)})


def is_without_one(other, row):
    return any(is_same(without(other, letter), row) for letter in letters(other))


class Edges(unittest.TestCase):
    def test_one_letter(self):
        self.assertEqual([fewest_out("jj"), flat_parts("jj"), count_flat_parts("jj"), handles_without("jj"), exchanges("jj")], ["", ("j",), 1, (0,), ()])
        self.assertEqual(crossed_once("jj"), ("aabb",))

    def test_eight_letters(self):
        self.assertEqual([fewest_out(EIGHT_APART), flat_parts(EIGHT_APART), count_flat_parts(EIGHT_APART)], ["", ("abcdefgh",), 255])
        # With oddly many letters each one is linked with evenly many, and so it is flat.
        self.assertEqual([fewest_out(EIGHT), len(flat_parts(EIGHT)), count_flat_parts(EIGHT)], ["a", 8, 128])
        self.assertEqual([handles_without(EIGHT), handles_without(EIGHT_APART)], [(0,) * 8, (0,) * 8])

    def test_ten_letters(self):
        self.assertEqual([exchanges(TEN_APART), exchanges("jj" + TEN_APART[2:])], [(), ()])
        told = []
        for place in range(20):
            signs = list(TEN)
            signs[place], signs[(place + 1) % 20] = signs[(place + 1) % 20], signs[place]
            if flat_by_links("".join(signs)):
                told.append(place)
        self.assertEqual(exchanges(TEN), tuple(told))

    def test_by_name(self):
        eight = Drawing("aa", "+", 0)
        self.assertEqual([fewest_out(row="abab"), flat_parts(row="abab"), count_flat_parts(row="abab")], ["a", ("a", "b"), 2])
        self.assertEqual([handles_without(row="abab"), exchanges(row="abab")], [(0, 0), (0, 1, 2, 3)])
        self.assertEqual([ways_in(drawing=eight), crossed_once(row="aa")], [((0, 0), (1, 1)), ("aabb",)])
