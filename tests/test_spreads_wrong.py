from selfcrossed import errors
from selfcrossed.spreads import (
    chance_of_one, first_greatest, greatest_rounds, spread_along, spread_in_all, turned_at, value_at, without,
)
from tests.kinds import (
    Plain, Touchy, no_integers_from_to, no_letters_of, no_rows, no_strings_or_integers, some_integers, some_strings,
)
from tests.wrongs import Wrong

ROWS = (no_rows(), errors.InvalidRow)
NINE = "abcdefghiabcdefghi"
TEN = "abcdefghijabcdefghij"


class WrongSpreads(Wrong):
    def test_row_alone(self):
        for action in (spread_along, spread_in_all, greatest_rounds, first_greatest, chance_of_one):
            self.assert_each_is_told(action, {"row": "abab"}, {"row": ROWS})

    def test_too_many(self):
        for action in (spread_in_all, greatest_rounds, first_greatest, chance_of_one):
            for row in (NINE, TEN):
                self.assert_comes_last(action, {"row": row}, {"row": ROWS}, errors.TooMany, {"most": 8})

    def test_turned_at(self):
        for row, letter, other, others in (("abab", "a", "b", ["a"]), ("abacbc", "a", "b", ["a", "c"]), ("abcdefghijabcdefghij", "a", "j", ["a"])):
            letters = (no_letters_of(row), errors.InvalidLetter)
            wrong = {"row": ROWS, "letter": letters, "other": (no_letters_of(row) + others, errors.InvalidLetter)}
            self.assert_each_is_told(turned_at, {"row": row, "letter": letter, "other": other}, wrong)

    def test_letters_that_are_linked_with_none(self):
        for letter in "ab":
            for other in "ab":
                names = ["row", "letter", "other"]
                self.assert_raised(turned_at, ["aabb", letter, other], names, errors.InvalidLetter, {"given": other})


class WrongPolynomials(Wrong):
    def assert_polynomial(self, polynomial, index):
        for number in (0, 10 ** 6, None, True, "", Touchy()):
            self.assert_raised(value_at, [polynomial, number], ["polynomial", "number"], errors.InvalidPolynomial, {"index": index})

    def test_no_tuple(self):
        values = [value for value in no_strings_or_integers() if not isinstance(value, tuple)]
        for polynomial in values + some_strings() + some_integers() + [[1], [1, 2], {0: 1}, range(1, 3)]:
            self.assert_polynomial(polynomial, None)

    def test_the_first_that_is_no_integer(self):
        for value in no_strings_or_integers() + some_strings():
            self.assert_polynomial((value,), 0)
            self.assert_polynomial((value, 0), 0)
            self.assert_polynomial((0, 0, value, 1), 2)
            self.assert_polynomial((1, value, value, 0), 1)
            self.assert_polynomial((1,) * 30 + (value,), 30)

    def test_the_last_one_is_0(self):
        for polynomial in ((0,), (1, 0), (0, 0), (1, 2, 0), (5,) * 99 + (0,)):
            self.assert_polynomial(polynomial, len(polynomial) - 1)

    def test_number(self):
        for polynomial in ((), (1,), (0, 1), (4, 4)):
            for number in no_integers_from_to(-10 ** 6, 10 ** 6):
                self.assert_raised(value_at, [polynomial, number], ["polynomial", "number"], errors.InvalidNumber, {"given": number})


class WrongWithout(Wrong):
    def assert_letters(self, row, letters, index):
        self.assert_raised(without, [row, letters], ["row", "letters"], errors.InvalidLetters, {"index": index})

    def test_the_row_comes_first(self):
        for row in no_rows():
            for letters in ("", "a", "z", None, Plain(), Touchy()):
                self.assert_raised(without, [row, letters], ["row", "letters"], errors.InvalidRow, {"given": row})

    def test_no_string(self):
        for letters in no_strings_or_integers() + some_integers() + [["a"], ("a",), b"a", {"a": 1}]:
            self.assert_letters("abab", letters, None)

    def test_the_first_that_is_none(self):
        told = {
            "d": 0, "j": 0, "ad": 1, "aa": 1, "aba": 2, "abb": 2, "abcc": 3, "abca": 3, "abcd": 3, "a ": 1, " a": 0, "a\n": 1, "A": 0, "?": 0,
            "ab?": 2, "ba?c": 2, "abcabc": 3, "z" * 8000: 0,
        }
        for letters, index in told.items():
            self.assert_letters("abcabc", letters, index)
        self.assert_letters(TEN, "abcdefghija", 10)
        self.assert_letters(TEN, "jihgfedcbk", 9)

    def test_none_left(self):
        for row, letters in (("aa", "a"), ("abab", "ab"), ("abab", "ba"), ("abcabc", "cab"), (TEN, "jihgfedcba"), (TEN, "abcdefghij")):
            self.assert_letters(row, letters, None)
