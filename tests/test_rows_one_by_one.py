"""What [6] and [7] say, gone through one by one for all rows with few letters."""

import functools
import itertools
import unittest

from selfcrossed.rows import (
    backwards, begun, count_rows, is_row, is_same, letters, lines_of, named, nth_row, places, plain, ways_to_itself,
)


def rows_over(signs, length):
    """All strings of these signs in which each sign that occurs stands just twice."""
    found = []
    for chosen in itertools.combinations(signs, length // 2):
        found.extend(sorted({"".join(row) for row in itertools.permutations(chosen + chosen)}))
    return found


def in_order(number):
    """All rows whose letters come first in the order of the alphabet, ascending."""
    signs = "abcde"[:number]
    rows = {""}
    for _ in range(2 * number):
        rows = {row + sign for row in rows for sign in signs if row.count(sign) < 2}
    return sorted([row for row in rows if sorted(signs, key=row.index) == list(signs)])


def all_namings(row, signs):
    """What all ways to give other letters of these signs make of the row."""
    own = sorted(set(row))
    made = []
    for others in itertools.permutations(signs, len(own)):
        made.append("".join([others[own.index(letter)] for letter in row]))
    return made


def all_ways(row):
    """What the 4 n ways to begin and to go make of the row, each one told place by place."""
    size = len(row)
    forwards = ["".join([row[(start + step) % size] for step in range(size)]) for start in range(size)]
    return forwards + ["".join([row[(start - step) % size] for step in range(size)]) for start in range(size)]


def same_lines(row, signs):
    """All rows of these signs that are the same line."""
    return {made for way in all_ways(row) for made in all_namings(way, signs)}


def are_alike(one, other):
    """Whether the one is the other but for the letters, unlike ones for unlike ones."""
    return len(one) == len(other) and len(set(zip(one, other))) == len(set(one)) == len(set(other))


class OneByOne(unittest.TestCase):
    def test_is_row(self):
        for length in range(7):
            for signs in itertools.product("abk", repeat=length):
                text = "".join(signs)
                told = length > 0 and set(text) <= set("ab") and all(text.count(sign) == 2 for sign in text)
                self.assertIs(is_row(text), told, text)

    def test_small_calls(self):
        for length in (2, 4, 6):
            for row in rows_over("bcdj", length):
                self.assertIs(is_row(row), True)
                self.assertEqual(letters(row), "".join([sign for sign in "abcdefghij" if sign in row]))
                self.assertEqual(backwards(row), "".join([row[-1 - place] for place in range(length)]))
                for letter in letters(row):
                    self.assertEqual(places(row, letter), tuple([k for k in range(length) if row[k] == letter]))
                self.assertEqual([begun(row, place) for place in range(length)], all_ways(row)[:length])

    def test_named(self):
        for length in (2, 4, 6):
            for row in rows_over("bcdj", length):
                made = [named(row, "".join(others)) for others in itertools.permutations("acij", length // 2)]
                self.assertEqual(made, all_namings(row, "acij"))

    def test_same_line_and_plain(self):
        for length in (2, 4, 6):
            rows = rows_over("abcd", length)
            for row in rows:
                same = same_lines(row, "abcd")
                self.assertEqual(plain(row), min(same))
                if row in in_order(length // 2):
                    self.assertEqual({other for other in rows if is_same(row, other)}, same)

    def test_same_line_of_unlike_sizes(self):
        for one, other in itertools.permutations(["aa", "aabb", "abab", "abcabc", "aabbcc"], 2):
            self.assertIs(is_same(one, other), False)

    def test_four_and_five_letters(self):
        for number, step in ((4, 1), (5, 7)):
            for row in in_order(number)[::step]:
                same = same_lines(row, "abcde"[:number])
                self.assertEqual(plain(row), min(same))
                self.assertEqual(ways_to_itself(row), len([way for way in all_ways(row) if are_alike(way, row)]))

    def test_ways_to_itself(self):
        for length in (2, 4, 6):
            for row in rows_over("bcdj", length):
                told = len([way for way in all_ways(row) if are_alike(way, row)])
                self.assertEqual(ways_to_itself(row), told)
                self.assertGreaterEqual(told, 1)

    def test_all_rows_in_order(self):
        for number in range(1, 6):
            rows = in_order(number)
            self.assertEqual(count_rows(number), len(rows))
            self.assertEqual([nth_row(number, index) for index in range(len(rows))], rows)

    def test_lines(self):
        for number in range(1, 5):
            told = sorted({min(same_lines(row, "abcd"[:number])) for row in in_order(number)})
            self.assertEqual(lines_of(number), tuple(told))

    def test_lines_of_five_letters(self):
        lines = lines_of(5)
        self.assertEqual(list(lines), sorted(set(lines)))
        for row in in_order(5):
            self.assertEqual(len([line for line in lines if line == plain(row)]), 1)
        for line in lines:
            self.assertEqual(line, min([way for way in all_ways(line) for way in all_namings(way, "abcde")]))

    def test_great_rows_by_their_indexes(self):
        for number in (6, 8, 10):
            last = None
            for index in range(0, count_rows(number), count_rows(number) // 97):
                row = nth_row(number, index)
                self.assertTrue(is_row(row) and len(row) == 2 * number)
                self.assertEqual(sorted(set(row), key=row.index), sorted(set(row)))
                self.assertEqual(index_of(row), index)
                self.assertTrue(last is None or last < row)
                last = row


def index_of(row):
    """How many rows in order are less than this one: for each place those that part from it there."""
    less = 0
    for place, letter in enumerate(row):
        ahead = row[:place]
        # A new letter is greater than all that wait, so that only waiting ones can be less than the row's.
        waiting = [sign for sign in set(ahead) if ahead.count(sign) == 1]
        lower = [sign for sign in waiting if sign < letter]
        less += len(lower) * ends(len(waiting) - 1, len(row) - place - 1)
    return less


@functools.lru_cache(maxsize=None)
def ends(waiting, left):
    """In how many ways a row goes on with so many places left, told step by step."""
    if waiting < 0 or waiting > left:
        return 0
    if left == 0:
        return 1
    return waiting * ends(waiting - 1, left - 1) + ends(waiting + 1, left - 1)
