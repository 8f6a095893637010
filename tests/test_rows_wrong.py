import copy
import unittest

from selfcrossed import errors, rows
from selfcrossed.rows import (
    backwards, begun, count_rows, is_row, is_same, letters, lines_of, named, nth_row, places, plain, ways_to_itself,
)
from tests.kinds import (
    Plain, Touchy, no_integers_from_to, no_rows, no_strings_or_integers, raised, some_integers, some_strings,
)
from tests.wrongs import Wrong


class WrongRows(Wrong):
    def test_is_row_takes_any_value(self):
        for value in no_rows():
            self.assertIs(is_row(value), False)

    def test_calls_with_a_row_alone(self):
        for action in (letters, backwards, plain, ways_to_itself):
            for row in no_rows():
                self.assert_raised(action, [row], ["row"], errors.InvalidRow, {"given": row})

    def test_calls_with_a_row_first(self):
        for row in no_rows():
            self.assert_raised(places, [row, "a"], ["row", "letter"], errors.InvalidRow, {"given": row})
            self.assert_raised(begun, [row, 0], ["row", "place"], errors.InvalidRow, {"given": row})
            self.assert_raised(named, [row, "a"], ["row", "letters"], errors.InvalidRow, {"given": row})

    def test_is_same(self):
        for row in no_rows():
            self.assert_raised(is_same, [row, "aa"], ["one", "other"], errors.InvalidRow, {"given": row})
            self.assert_raised(is_same, ["aa", row], ["one", "other"], errors.InvalidRow, {"given": row})


class WrongLetters(Wrong):
    def test_places(self):
        strings = ["", "ab", "ba", "aa", "abab", "c", "j", "A", "a ", " a", "a\n"]
        for letter in no_strings_or_integers() + some_strings() + some_integers() + strings:
            self.assert_raised(places, ["abab", letter], ["row", "letter"], errors.InvalidLetter, {"given": letter})

    def test_named_is_passed_no_string_or_another_number_of_signs(self):
        strings = ["", "a", "abc", "aaa", "kkk", "abcdefghij", "k"]
        values = no_strings_or_integers() + some_integers() + [["a", "b"], ("a", "b"), {"a": 0, "b": 0}, b"ab"]
        for value in values + strings:
            self.assert_raised(named, ["abab", value], ["row", "letters"], errors.InvalidLetters, {"index": None})

    def test_named_tells_the_first_wrong_sign(self):
        told = {
            "kab": 0, "aab": 1, "aba": 2, "abb": 2, "aaa": 1, "abk": 2, "akk": 1, "kkk": 0, "Abc": 0, "a b": 1, "ab\n": 2,
            "a?a": 1, "aa?": 1, "`ab": 0, "jk`": 1, "123": 0,
        }
        for value, index in told.items():
            self.assert_raised(named, ["abcabc", value], ["row", "letters"], errors.InvalidLetters, {"index": index})

    def test_named_tells_the_last_sign_of_ten(self):
        row = "abcdefghijabcdefghij"
        for value, index in (("abcdefghia", 9), ("abcdefghik", 9), ("abcdefghii", 9), ("abcdefghij ", None), ("bcdefghij", None)):
            self.assert_raised(named, [row, value], ["row", "letters"], errors.InvalidLetters, {"index": index})

    def test_named_one_letter(self):
        for value, index in (("k", 0), ("", None), ("aa", None), ("ab", None)):
            self.assert_raised(named, ["jj", value], ["row", "letters"], errors.InvalidLetters, {"index": index})


class WrongIntegers(Wrong):
    def test_begun(self):
        for row in ("aa", "abcabc", "abcdefghijabcdefghij"):
            for place in no_integers_from_to(0, len(row) - 1):
                self.assert_raised(begun, [row, place], ["row", "place"], errors.InvalidPlace, {"given": place})

    def test_count_rows(self):
        for number in no_integers_from_to(1, 10):
            self.assert_raised(count_rows, [number], ["number"], errors.InvalidNumber, {"given": number})

    def test_lines_of(self):
        for number in no_integers_from_to(1, 5):
            self.assert_raised(lines_of, [number], ["number"], errors.InvalidNumber, {"given": number})

    def test_nth_row_number(self):
        for number in no_integers_from_to(1, 10):
            self.assert_raised(nth_row, [number, 0], ["number", "index"], errors.InvalidNumber, {"given": number})

    def test_nth_row_index(self):
        for number in (1, 2, 3, 10):
            for index in no_integers_from_to(0, count_rows(number) - 1):
                self.assert_raised(nth_row, [number, index], ["number", "index"], errors.InvalidIndex, {"given": index})


class SeveralWrong(Wrong):
    def test_the_row_comes_first(self):
        for row in no_rows():
            for wrong in (None, True, "", "kk", -1, (), [], {}, Plain(), Touchy()):
                told = {"given": row}
                self.assert_raised(places, [row, wrong], ["row", "letter"], errors.InvalidRow, told)
                self.assert_raised(begun, [row, wrong], ["row", "place"], errors.InvalidRow, told)
                self.assert_raised(named, [row, wrong], ["row", "letters"], errors.InvalidRow, told)
                self.assert_raised(is_same, [row, wrong], ["one", "other"], errors.InvalidRow, told)

    def test_the_number_comes_first(self):
        for number in no_integers_from_to(1, 10):
            for index in (None, True, "", -1, 10 ** 20, (), Touchy()):
                self.assert_raised(nth_row, [number, index], ["number", "index"], errors.InvalidNumber, {"given": number})

    def test_the_order_of_names_does_not_count(self):
        with self.assertRaises(errors.InvalidRow) as caught:
            begun(place=None, row="a")
        self.assertEqual(caught.exception.given, "a")
        with self.assertRaises(errors.InvalidNumber) as caught:
            nth_row(index=-1, number=11)
        self.assertEqual(caught.exception.given, 11)


class NothingIsChanged(unittest.TestCase):
    def test_what_is_passed(self):
        values = [["aa", ["b"]], {"aa": ["b"]}, (["aa"], {"b": []})]
        kept = copy.deepcopy(values)
        for value in values:
            self.assertIs(is_row(value), False)
            for action in (letters, backwards, plain, ways_to_itself, count_rows, lines_of):
                raised(action, [value])
            for action in (places, begun, named, is_same, nth_row):
                for first in ("abab", 3, value):
                    raised(action, [first, value])
        self.assertEqual(values, kept)

    def test_errors_are_those_of_the_package(self):
        # A wrong argument never ends in an error that the document does not tell.
        for name in ("letters", "backwards", "plain", "ways_to_itself", "count_rows", "lines_of"):
            for value in no_strings_or_integers() + some_strings():
                self.assertIsInstance(raised(getattr(rows, name), [value]), errors.NotRight)
