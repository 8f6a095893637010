import unittest

from selfcrossed.rows import (
    backwards, begun, count_rows, is_row, is_same, letters, lines_of, named, nth_row, places, plain, ways_to_itself,
)

TEN = "abcdefghijabcdefghij"
TEN_APART = "aabbccddeeffgghhiijj"


class Interface(unittest.TestCase):
    def test_by_name(self):
        self.assertIs(is_row(value="abab"), True)
        self.assertEqual(letters(row="cbcb"), "bc")
        self.assertEqual(places(letter="b", row="cbcb"), (1, 3))
        self.assertEqual(begun(place=2, row="abacbc"), "acbcab")
        self.assertEqual(backwards(row="aabb"), "bbaa")
        self.assertEqual(named(letters="ab", row="cbcb"), "baba")
        self.assertEqual(plain(row="cbacab"), "abacbc")
        self.assertIs(is_same(other="aabb", one="abba"), True)
        self.assertEqual(ways_to_itself(row="abcabc"), 12)
        self.assertEqual(count_rows(number=3), 15)
        self.assertEqual(nth_row(index=1, number=2), "abab")
        self.assertEqual(lines_of(number=2), ("aabb", "abab"))

    def test_kinds_of_what_is_returned(self):
        self.assertEqual([type(worth) for worth in (is_row("aa"), is_row(0), is_same("aa", "bb"))], [bool] * 3)
        self.assertEqual([type(worth) for worth in (places("aa", "a"), lines_of(1))], [tuple] * 2)
        self.assertEqual([type(worth) for worth in (count_rows(1), ways_to_itself("aa"))], [int] * 2)


class OneLetter(unittest.TestCase):
    def test_least_row(self):
        self.assertEqual([is_row("aa"), is_row("jj"), letters("jj"), places("jj", "j")], [True, True, "j", (0, 1)])
        self.assertEqual([begun("jj", 0), begun("jj", 1), backwards("jj"), named("jj", "c")], ["jj", "jj", "jj", "cc"])
        self.assertEqual([plain("jj"), is_same("aa", "jj"), ways_to_itself("jj")], ["aa", True, 4])

    def test_numbers(self):
        self.assertEqual([count_rows(1), nth_row(1, 0), lines_of(1)], [1, "aa", ("aa",)])


class TenLetters(unittest.TestCase):
    def test_letters_and_places(self):
        self.assertEqual([is_row(TEN), is_row(TEN_APART), letters(TEN), letters(TEN[::-1])], [True, True] + [TEN[:10]] * 2)
        self.assertEqual([places(TEN, "a"), places(TEN, "j"), places(TEN_APART, "j")], [(0, 10), (9, 19), (18, 19)])

    def test_begun_at_each_place(self):
        self.assertEqual([begun(TEN_APART, 0), begun(TEN, 10)], [TEN_APART, TEN])
        self.assertEqual(begun(TEN_APART, 1), "abbccddeeffgghhiijja")
        self.assertEqual(begun(TEN_APART, 19), "jaabbccddeeffgghhiij")

    def test_other_letters(self):
        self.assertEqual(named(TEN, "jihgfedcba"), "jihgfedcbajihgfedcba")
        self.assertEqual(named("jjiihhggffeeddccbbaa", "bacdefghij"), "jjiihhggffeeddccaabb")

    def test_same_line(self):
        self.assertEqual([plain(TEN), plain(TEN_APART), plain("jihgfedcbajihgfedcba")], [TEN, TEN_APART, TEN])
        self.assertEqual(plain("abcdefghijjihgfedcba"), "aabcdefghijjihgfedcb")
        self.assertEqual([is_same(TEN, backwards(TEN)), is_same(TEN, TEN_APART)], [True, False])
        self.assertEqual([ways_to_itself(TEN), ways_to_itself(TEN_APART)], [40, 20])

    def test_numbers(self):
        self.assertEqual(count_rows(10), 654729075)
        self.assertEqual(nth_row(10, 0), TEN_APART)
        self.assertEqual(nth_row(10, 1), "aabbccddeeffgghhijij")
        self.assertEqual(nth_row(10, 654729073), "abcdefghijjihgfedcab")
        self.assertEqual(nth_row(10, 654729074), "abcdefghijjihgfedcba")
        # The rows that do not begin with `aa` come behind the 17 * 15 * .. * 1 that do.
        self.assertEqual(nth_row(10, 34459424), "aabcdefghijjihgfedcb")
        self.assertEqual(nth_row(10, 34459425), "ababccddeeffgghhiijj")


class Counts(unittest.TestCase):
    def test_count_rows(self):
        told = [1, 3, 15, 105, 945, 10395, 135135, 2027025, 34459425, 654729075]
        self.assertEqual([count_rows(number) for number in range(1, 11)], told)

    def test_first_and_last_row(self):
        for number in range(1, 11):
            first = "".join([letter * 2 for letter in "abcdefghij"[:number]])
            last = "abcdefghij"[:number]
            self.assertEqual(nth_row(number, 0), first)
            self.assertEqual(nth_row(number, count_rows(number) - 1), last + last[::-1])

    def test_lines_of(self):
        self.assertEqual([len(lines_of(number)) for number in range(1, 6)], [1, 2, 5, 17, 79])
        self.assertEqual([lines_of(5)[0], lines_of(5)[-1]], ["aabbccddee", "abcdeabcde"])


class Ordinary(unittest.TestCase):
    def test_letters_with_gaps(self):
        self.assertEqual([letters("hbhb"), letters("jaaj"), places("hbhb", "h"), named("hbhb", "ca")], ["bh", "aj", (0, 2), "acac"])

    def test_named_with_its_own_letters(self):
        self.assertEqual([named("cbcb", "bc"), named("cbcb", "cb"), named("abba", "ba")], ["cbcb", "bcbc", "baab"])

    def test_ways_to_itself(self):
        told = {"aa": 4, "aabb": 4, "abba": 4, "abab": 8, "aabbcc": 6, "aabcbc": 2, "aabccb": 4, "abacbc": 4, "abcabc": 12}
        self.assertEqual({row: ways_to_itself(row) for row in told}, told)

    def test_lines_that_differ_backwards(self):
        # No beginning elsewhere leads from these rows to the same ones read backwards, so both ways must be tried.
        self.assertEqual([plain("aabcdcbd"), plain("aabcdbdc"), plain("aabbcddece")], ["aabcdbdc", "aabcdbdc", "aabbcdceed"])
        self.assertTrue(is_same("aabcdcbd", "aabcdbdc"))
        self.assertEqual([ways_to_itself("aabcdbdc"), ways_to_itself("aabcdeebdc"), ways_to_itself("aabbcdceed")], [1, 2, 1])

    def test_unlike_sizes_are_not_the_same(self):
        self.assertEqual([is_same("aa", "aabb"), is_same("abab", "aa"), is_same("abab", "ijij")], [False, False, True])

    def test_calls_again_give_the_same(self):
        for _ in range(2):
            self.assertEqual([nth_row(4, 50), lines_of(2), plain("dccd")], ["abcacddb", ("aabb", "abab"), "aabb"])
