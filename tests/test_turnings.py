"""What [18] and [19] and the interface say of turnings, gone through for all rows with few letters."""

import functools
import itertools
import unittest

from selfcrossed.rows import begun, is_row, is_same, lines_of, plain
from selfcrossed.turnings import (
    all_against, all_along, count_rounds, count_tours, one_web, rounds, rounds_by_table, tour, tours, tours_along,
    turnings_between,
)
from tests.few import are_linked_by_places, few_rows, renamed, rows_with, some_rows

SIX = "abcdefabcdef"
EIGHT = "abcdefghabcdefgh"
EIGHT_APART = "hhaabbccddeeffgg"
TEN = "abcdefghijabcdefghij"
TEN_APART = "jjiihhggffeeddccbbaa"


@functools.lru_cache(maxsize=None)
def all_turnings(number):
    """All turnings of so many letters, ascending."""
    return ["".join(turnings) for turnings in itertools.product("=ox", repeat=number)]


def joined_ends(row, turnings):
    """Which ends of edges are joined at the letters, an end being told as the edge and whether it is the later one."""
    size = len(row)
    joined = {}
    for letter, turning in zip(sorted(set(row)), turnings):
        j, k = [place for place, sign in enumerate(row) if sign == letter]
        into, out = {at: ((at - 1) % size, True) for at in (j, k)}, {at: (at, False) for at in (j, k)}
        pairs = {
            "=": [(into[j], out[j]), (into[k], out[k])], "o": [(into[j], out[k]), (into[k], out[j])],
            "x": [(into[j], into[k]), (out[j], out[k])],
        }
        for one, other in pairs[turning]:
            joined[one], joined[other] = other, one
    return joined


def rounds_by_hand(row, turnings):
    """The rounds, of all ways to begin and both ways to go the least tuple of each."""
    joined = joined_ends(row, turnings)
    left = set(range(len(row)))
    found = []
    while left:
        first = edge = left.pop()
        forwards = True
        gone = []
        while not gone or (edge, forwards) != (first, True):
            gone.append(edge if forwards else -1 - edge)
            left.discard(edge)
            edge, is_end = joined[(edge, forwards)]
            forwards = not is_end
        back = [-1 - element for element in reversed(gone)]
        found.append(min([tuple(way[at:] + way[:at]) for way in (gone, back) for at in range(len(gone))]))
    return tuple(sorted(found))


def tour_by_hand(row, turnings):
    """The letters in the order in which the one round meets them."""
    found = rounds_by_hand(row, turnings)
    if len(found) != 1:
        return None
    return "".join([row[(element + 1) % len(row)] if element >= 0 else row[-1 - element] for element in found[0]])


class Rounds(unittest.TestCase):
    def test_all_turnings(self):
        for row in few_rows(3) + few_rows(4)[::5]:
            for turnings in all_turnings(len(row) // 2):
                told = rounds_by_hand(row, turnings)
                self.assertEqual(rounds(row, turnings), told)
                self.assertEqual(count_rounds(row, turnings), len(told))

    def test_each_edge_lies_on_one(self):
        for row in few_rows(3):
            for turnings in all_turnings(len(row) // 2):
                edges = [element if element >= 0 else -1 - element for each in rounds(row, turnings) for element in each]
                self.assertEqual(sorted(edges), list(range(len(row))))

    def test_by_table(self):
        for row in few_rows(4) + [renamed(row) for row in rows_with(5)[::101]]:
            for turnings in all_turnings(len(row) // 2):
                self.assertEqual(rounds_by_table(row, turnings), count_rounds(row, turnings), (row, turnings))

    def test_by_table_with_ten_letters(self):
        for row in (TEN, TEN_APART, "abcdefghijcadbfehgji"):
            for turnings in ("=" * 10, "o" * 10, "x" * 10, "=oxxo=oxo=", "xxxxxooooo"):
                self.assertEqual(rounds_by_table(row, turnings), count_rounds(row, turnings))

    def test_straight(self):
        for row in few_rows(4):
            straight = "=" * (len(row) // 2)
            self.assertEqual(rounds(row, straight), (tuple(range(-len(row), 0)),))
            self.assertEqual([count_rounds(row, straight), rounds_by_table(row, straight)], [1, 1])

    def test_all_one_way(self):
        for row in some_rows():
            number = len(row) // 2
            self.assertEqual(all_against(row), len(rounds_by_hand(row, "x" * number)))
            self.assertEqual(all_along(row), len(rounds_by_hand(row, "o" * number)))


class Tours(unittest.TestCase):
    def test_all_turnings(self):
        for row in few_rows(3) + few_rows(4)[::5]:
            for turnings in all_turnings(len(row) // 2):
                told = tour(row, turnings)
                self.assertEqual(told, tour_by_hand(row, turnings))
                if told is not None:
                    self.assertTrue(is_row(told) and set(told) == set(row))

    def test_straight(self):
        for row in few_rows(4):
            self.assertTrue(is_same(tour(row, "=" * (len(row) // 2)), row))

    def test_numbers(self):
        for row in few_rows(3) + few_rows(4)[::5] + [renamed(row) for row in rows_with(5)[::211]]:
            number = len(row) // 2
            made = {turnings: tour_by_hand(row, turnings) for turnings in all_turnings(number)}
            found = [turnings for turnings in made if made[turnings] is not None]
            self.assertEqual(tours(row), tuple(sorted({plain(made[turnings]) for turnings in found})))
            self.assertEqual(count_tours(row), len(found))
            self.assertEqual(tours_along(row), len([turnings for turnings in found if "x" not in turnings]))

    def test_webs(self):
        for number in (1, 2, 3):
            lines = lines_of(number)
            for one, other in itertools.product(lines, lines):
                self.assertIs(one_web(one, other), other in tours(one))
                self.assertIs(one_web(one, other), one_web(other, one))
                self.assertIs(one_web(renamed(one), begun(other, 1)), one_web(one, other))

    def test_webs_with_four_letters(self):
        lines = lines_of(4)
        webs = {tours(line) for line in lines}
        # The lines fall into webs, each line into one.
        self.assertEqual(sorted([line for web in webs for line in web]), sorted(lines))
        for one in lines[::2]:
            for other in lines[::3]:
                self.assertIs(one_web(one, other), tours(one) == tours(other))

    def test_turnings_between(self):
        for number in (1, 2, 3, 4):
            lines = lines_of(number)
            for one, other in itertools.product(lines[::2], lines):
                told = turnings_between(renamed(one), other)
                self.assertEqual(told is not None, one_web(one, other))
                if told is not None:
                    self.assertTrue(is_same(tour(renamed(one), told), other))

    def test_turnings_to_itself(self):
        for row in few_rows(3):
            self.assertTrue(is_same(tour(row, turnings_between(row, row)), row))

    def test_along_keeps_the_way(self):
        # Turned along everywhere each edge is gone forwards, or each backwards.
        for row in few_rows(4):
            for each in rounds(row, "o" * (len(row) // 2)):
                self.assertEqual(len({element < 0 for element in each}), 1)

    def test_linked_letters_turned_along_make_one_round(self):
        for row in few_rows(4):
            own = sorted(set(row))
            for one, other in itertools.combinations(own, 2):
                turnings = "".join(["o" if letter in (one, other) else "=" for letter in own])
                self.assertEqual(tour(row, turnings) is not None, are_linked_by_places(row, one, other))


class Edges(unittest.TestCase):
    def test_one_letter(self):
        self.assertEqual([rounds("jj", "="), rounds("jj", "o"), rounds("jj", "x")], [((-2, -1),), ((-2,), (-1,)), ((-2, 0),)])
        self.assertEqual([tour("jj", "="), tour("jj", "o"), tour("jj", "x"), tours("jj")], ["jj", None, "jj", ("aa",)])
        self.assertEqual([count_tours("jj"), tours_along("jj"), all_against("jj"), all_along("jj")], [2, 1, 1, 2])
        self.assertEqual([one_web("jj", "aa"), one_web("aa", "aabb"), one_web("aabb", "aa")], [True, False, False])

    def test_six_letters(self):
        self.assertIn(SIX, tours(SIX))
        self.assertEqual([one_web(SIX, SIX), one_web(SIX, "aa"), one_web("aa", SIX)], [True, False, False])
        self.assertIsNone(turnings_between(SIX, "aabbccddeeff"))
        self.assertTrue(is_same(tour(SIX, turnings_between(SIX, SIX)), SIX))

    def test_eight_letters(self):
        self.assertEqual([count_tours(EIGHT_APART), tours_along(EIGHT_APART)], [2 ** 8, 1])
        told = [len(rounds_by_hand(EIGHT, turnings)) for turnings in all_turnings(8)]
        self.assertEqual(count_tours(EIGHT), told.count(1))
        self.assertEqual(tours_along(EIGHT), 128)

    def test_ten_letters(self):
        self.assertEqual([all_along(TEN_APART), all_against(TEN_APART), all_along(TEN), all_against(TEN)], [11, 1, 1, 10])
        self.assertEqual([count_rounds(TEN, "=" * 10), rounds(TEN, "o" * 10)], [1, rounds_by_hand(TEN, "o" * 10)])
        self.assertEqual(tour(TEN, "o" * 10), tour_by_hand(TEN, "o" * 10))

    def test_by_name(self):
        self.assertEqual([count_rounds(turnings="ooo", row="abcabc"), rounds_by_table(turnings="xxx", row="abcabc")], [2, 3])
        self.assertEqual([rounds(turnings="o", row="aa"), tour(turnings="oo=", row="abcabc")], [((-2,), (-1,)), "cbacba"])
        self.assertEqual([tours(row="aa"), count_tours(row="abcabc"), tours_along(row="abcabc")], [("aa",), 16, 4])
        self.assertEqual([one_web(other="abacbc", one="abcabc"), turnings_between(other="aabb", one="aa")], [True, None])
        self.assertEqual([all_against(row="abcabc"), all_along(row="abcabc")], [3, 2])
