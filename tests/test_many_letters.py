"""Rows with many letters: what is found for all sides or turnings at once is what is found for one after the other."""

import unittest

from selfcrossed.checker import accepts
from selfcrossed.drawings import Drawing, begun_at, drawings_of, mirror, plain_drawing, turned_out, walked_back
from selfcrossed.flat import flat_by_links, flat_sides, handles, is_flat
from selfcrossed.handles import (
    first_sides, greatest_handles, handles_spread, least_handles, one_region,
)
from selfcrossed.lines import are_flat, flat_lines_sides, least_lines_handles
from selfcrossed.moves import done, ins, outs
from selfcrossed.numbers import least_same_way, most_turns, region_numbers, same_way, three_ways, turns, turns_spread
from selfcrossed.parts import crossed_once, ways_in
from selfcrossed.rows import backwards, begun, count_rows, lines_of, nth_row, plain, ways_to_itself
from selfcrossed.spreads import first_greatest, greatest_rounds, spread_along, spread_in_all
from selfcrossed.turnings import count_rounds, count_tours, one_web, tour, tours, tours_along, turnings_between
from tests.few import OTHER_LETTERS, all_sides, regions_by_corners, rows_with
from tests.papers import is_paper
from tests.pictures import Numbers, pictures
from tests.several import handles_by_corners, lines_with
from tests.test_parts import is_way_by_regions, pairs, put
from tests.test_turnings import all_turnings

# No two edges of the first one join the same letters; the others have loops, and two, three and four such edges.
WEBS = ["abcadbecfdef", "aabbccddeeff", "ffeaabbeccdd", "abcabcdefdef", "abacbcdedfef", "abacbdcdefef", "abcdefabcdef", "abbaccdeedff"]


def rows_of(number, many):
    """So many rows with so many letters, drawn by lot, with letters in several orders."""
    numbers = Numbers(number)
    letters = "jdbhacgfei"[:number]
    found = []
    for _ in range(many):
        row = nth_row(number, numbers.below(count_rows(number)))
        found.append(row.translate(str.maketrans("abcdefghij"[:number], letters)))
    return found


def flat_rows(number, many):
    """So many flat rows with so many letters: of pictures and of rows put into one another."""
    found = [picture.row for picture in pictures(400) if len(picture.row) == 2 * number]
    rings = ["abcabc", "aabb", "abba", "abcdeabcde", "aa"]
    numbers = Numbers(number)
    while len(found) < many:
        row = "aa"
        while len(row) < 2 * number:
            other = rings[numbers.below(len(rings))]
            if len(row) + len(other) <= 2 * number:
                new = [letter for letter in "jdbhacgfei" if letter not in row]
                other = other.translate(str.maketrans("abcde", "".join(new + list("zzzzz"))[:5]))
                place = numbers.below(len(row))
                row = row[:place] + other + row[place:]
        found.append(row)
    return found[:many]


class Flat(unittest.TestCase):
    def test_two_ways_tell_the_same(self):
        for row in rows_with(6) + rows_of(7, 1500) + rows_of(8, 1500) + rows_of(9, 1500) + rows_of(10, 1500):
            self.assertIs(is_flat(row), flat_by_links(row))

    def test_flat_ones(self):
        for number in range(6, 11):
            for row in flat_rows(number, 40):
                self.assertIs(is_flat(row), True)
                self.assertIs(flat_by_links(row), True)

    def test_sides(self):
        for number in (6, 7, 8):
            for row in rows_of(number, 10) + flat_rows(number, 12):
                told = [sides for sides in all_sides(number) if handles(row, sides) == 0]
                self.assertEqual(flat_sides(row), tuple(told))

    def test_sides_with_ten_letters(self):
        for row in flat_rows(10, 4):
            told = flat_sides(row)
            self.assertEqual(list(told), sorted(set(told)))
            for sides in told[:: 1 + len(told) // 9]:
                self.assertEqual(len(regions_by_corners(row, sides)), 12)
            self.assertEqual(len([sides for sides in all_sides(10) if handles(row, sides) == 0]), len(told))


class Handles(unittest.TestCase):
    def test_all_sides(self):
        for number in (6, 7, 8):
            for row in rows_of(number, 12) + flat_rows(number, 4):
                told = [handles(row, sides) for sides in all_sides(number)]
                self.assertEqual([least_handles(row), greatest_handles(row)], [min(told), max(told)])
                self.assertEqual(handles_spread(row), tuple([told.count(each) for each in range(max(told) + 1)]))
                for each in range(7):
                    self.assertEqual(first_sides(row, each), all_sides(number)[told.index(each)] if each in told else None)
                regions = [number + 2 - 2 * each for each in told]
                self.assertEqual(one_region(row), all_sides(number)[regions.index(1)] if 1 in regions else None)

    def test_lines(self):
        for lines in lines_with(5)[::1511]:
            told = [handles_by_corners(lines, sides) for sides in all_sides(5)]
            self.assertEqual([least_lines_handles(lines), are_flat(lines)], [min(told), 0 in told])
            self.assertEqual(flat_lines_sides(lines), tuple([sides for sides, each in zip(all_sides(5), told) if each == 0]))


class Numbered(unittest.TestCase):
    def test_all_drawings(self):
        for number in (5, 6, 7, 8):
            for row in flat_rows(number, 6) if number < 8 else ["abcdeffedcbaghhg", "gabcabchhdeedffg", "abcdeabcdefghhgf"]:
                drawn = [Drawing(row, sides, region[0]) for sides in flat_sides(row) for region in regions_by_corners(row, sides)]
                told = [turns(drawing) for drawing in drawn]
                self.assertEqual(most_turns(row), max(told))
                self.assertEqual(turns_spread(row), tuple([(each, told.count(each)) for each in sorted(set(told))]))
                self.assertEqual(least_same_way(row), min([same_way(drawing) for drawing in drawn]))
                if number < 7:
                    plain_ones = sorted({plain_drawing(drawing).text for drawing in drawn})
                    self.assertEqual([drawing.text for drawing in drawings_of(row)], plain_ones)

    def test_what_is_known_of_drawings(self):
        for row in flat_rows(6, 8):
            for drawing in drawings_of(row):
                told = Drawing.read(drawing.text)
                self.assertEqual([drawing.row, drawing.sides, drawing.outside, drawing.regions, drawing.size], [told.row, told.sides, told.outside, told.regions, 6])
                self.assertTrue(drawing == told)


class Plain(unittest.TestCase):
    def test_all_ways(self):
        for number in (6, 8, 10):
            for row in rows_of(number, 25) + flat_rows(number, 10) + ["abcdefghij"[:number] * 2, "".join([letter * 2 for letter in "abcdefghij"[:number]])]:
                ways = [begun(row, place) for place in range(len(row))]
                ways += [backwards(way) for way in ways]
                told = [by_alphabet(way) for way in ways]
                self.assertEqual(plain(row), min(told))
                self.assertEqual(ways_to_itself(row), told.count(by_alphabet(row)))


def by_alphabet(row):
    """The row with letters by the order in which they first stand."""
    order = sorted(set(row), key=row.index)
    return "".join(["abcdefghij"[order.index(letter)] for letter in row])


class Turned(unittest.TestCase):
    def test_all_turnings(self):
        for row in rows_of(6, 4) + flat_rows(6, 2):
            told = [count_rounds(row, turnings) for turnings in all_turnings(6)]
            self.assertEqual(count_tours(row), told.count(1))
            self.assertEqual(spread_in_all(row), tuple([told.count(each + 1) for each in range(max(told))]))
            self.assertEqual([greatest_rounds(row), first_greatest(row)], [max(told), all_turnings(6)[told.index(max(told))]])
            along = [each for each, turnings in zip(told, all_turnings(6)) if "x" not in turnings]
            self.assertEqual(tours_along(row), along.count(1))
            self.assertEqual(spread_along(row), tuple([along.count(each + 1) for each in range(max(along))]))

    def test_tours(self):
        for row in rows_of(5, 4) + [OTHER_LETTERS[5] * 2]:
            told = {plain(tour(row, turnings)) for turnings in all_turnings(5) if tour(row, turnings) is not None}
            self.assertEqual(tours(row), tuple(sorted(told)))
            for other in rows_with(5)[::199]:
                self.assertIs(one_web(row, other), plain(other) in told)

    def test_webs(self):
        for index, row in enumerate(WEBS):
            made = {turnings: tour(row, turnings) for turnings in all_turnings(6)}
            found = {turnings: plain(each) for turnings, each in made.items() if each is not None}
            self.assertEqual(tours(row), tuple(sorted(set(found.values()))))
            for other in tours(row)[index % 3::3] + tuple(WEBS):
                told = [turnings for turnings in found if found[turnings] == plain(other)]
                self.assertIs(one_web(row, other), bool(told))
                self.assertEqual(turnings_between(row, other) in told, bool(told))
                self.assertEqual(turnings_between(row, other) is None, not told)

    def test_lines_with_five_letters_fall_into_webs(self):
        left = {row: tours(row) for row in lines_of(5)}
        for one in list(left)[::7]:
            for other in list(left)[::5]:
                self.assertIs(one_web(one, other), other in left[one])


class PutIn(unittest.TestCase):
    def test_ways_in(self):
        for number in (5, 6, 8, 9):
            for row in flat_rows(number, 5):
                sides = flat_sides(row)
                drawing = Drawing(row, sides[len(sides) // 3], 0)
                self.assertEqual(ways_in(drawing), tuple([pair for pair in pairs(drawing) if is_way_by_regions(drawing, pair)]))

    def test_crossed_once(self):
        for number in (5, 6, 7):
            for row in rows_of(number, 15) + flat_rows(number, 6) + [row.replace(row[3], "") for row in flat_rows(number + 1, 12)]:
                new = [letter for letter in "abcdefghij" if letter not in row][0]
                edges = range(len(row))
                made = [put(row, j, k, new) for j in edges for k in edges if j <= k]
                self.assertEqual(crossed_once(row), tuple(sorted({plain(other) for other in made if flat_by_links(other)})))


class Checked(unittest.TestCase):
    def test_ways_of_moves(self):
        numbers = Numbers(17)
        for number in range(4, 11):
            for row in flat_rows(number, 6):
                sides = flat_sides(row)
                drawing = now = Drawing(row, sides[numbers.below(len(sides))], numbers.below(4 * number) - 2 * number)
                moves = ()
                for _ in range(12):
                    choice = [each for each in (outs(now), ins(now)) if each]
                    choice = choice[numbers.below(len(choice))]
                    moves += (choice[numbers.below(len(choice))],)
                    now = done(now, moves[-1])
                same = walked_back(begun_at(now, numbers.below(len(now.row))))
                self.assertIs(accepts(("led", drawing.text, now.text), moves), True)
                self.assertIs(accepts(("led", drawing.text, same.text), moves), True)
                others = [mirror(now), turned_out(now, now.regions[numbers.below(len(now.regions))]), drawing]
                for claim in [("led", drawing.text, other.text) for other in others] + [("led", now.text, drawing.text)]:
                    self.assertIs(accepts(claim, moves), is_paper(claim, moves))

    def test_numbers(self):
        for number in range(4, 11):
            for row in flat_rows(number, 8):
                drawing = Drawing(row, flat_sides(row)[-1], number)
                told = region_numbers(drawing)
                for word, count in (("turns", turns), ("same way", same_way), ("three ways", three_ways)):
                    self.assertIs(accepts((word, drawing.text, count(drawing)), told), True)
                    self.assertIs(accepts((word, drawing.text, count(drawing) + 2), told), False)
                    self.assertIs(accepts((word, drawing.text, count(drawing)), told[1:] + told[:1]), told[1:] + told[:1] == told)

    def test_six_letters(self):
        for row in rows_of(6, 10) + flat_rows(6, 5) + WEBS:
            least = least_handles(row)
            self.assertEqual([accepts(("all handles", row, many), ()) for many in range(4)], [many == least for many in range(4)])
            for lot in ("", "a", "d", "ac", "bf", "ace", "bdef", "abcdef"):
                self.assertIs(accepts(("fewest out", row, len(lot)), lot), is_paper(("fewest out", row, len(lot)), lot))
