from selfcrossed import errors
from selfcrossed.lines import (
    are_even, are_flat, are_same_lines, flat_lines_sides, joined, least_lines_handles, lines_handles, parted, plain_lines,
    shared,
)
from tests.kinds import (
    Plain, Touchy, no_integers_from_to, no_letters_of, no_signs_of, no_strings_or_integers, some_integers, some_strings,
)
from tests.wrongs import Wrong

RINGS = ("ab", "ab")
MORE = (None, True, b"", 1j, (None,), [], {}, Plain(), Touchy(), "", "a", 0)
NINE = ("abcdefghi", "abcdefghi")
# What is wrong, and the index that is told.
WRONG_TUPLES = (
    ((), None), (("",), 0), (("aa", ""), 1), (("aa", "bb", ""), 2), (("aa", "bb", "cc", "dd"), 3), (("aa", "bb", "cc", ""), 3),
    (("aa", "bb", "cc", None), 3), (("a", "b", "c", "abc"), 3), (("aa", "bb", "cc", "dd", "ee"), 3), (("", "", "", ""), 0),
    (("a",), None), (("ab", "a"), None), (("ab", "cd", "ac"), None), (("aab",), None), (("aaa",), 0), (("aa", "a"), 1),
    (("a", "a", "a"), 2), (("aa", "bb", "a"), 2), (("ab", "aba"), 1), (("aab", "bab"), 1), (("aab", "b", "b"), 2), (("A", "A"), 0),
    (("aa", "kk"), 1), (("a a", "b"), 0), (("a?a",), 0), (("aa\n",), 0), (("aa", "b\nb"), 1), (("ab", "ab", " "), 2), (("aakk", "a"), 0),
    (("abc", "abk"), 1), (("aa", "a" * 8000), 1), (("abcdefghijabcdefghijk",), 0), (("abcdefghij", "abcdefghij", "a"), 2),
    (("abcdefghijk", "abcdefghijk"), 0), (("a", "", "b", "c", "d"), 1), (("a", "b", "cc", 5), 3), (("aa", 5, ""), 1), (("", 5), 0),
)


def no_lines():
    """Values of every kind that are no lines, each with the index that is told."""
    values = [value for value in no_strings_or_integers() if not isinstance(value, tuple)]
    values += some_strings() + some_integers() + ["ab", "aa", ["aa"], ["ab", "ab"], {"aa": 1}]
    found = [(value, None) for value in values]
    for value in no_strings_or_integers() + some_integers():
        found += [((value,), 0), ((value, "aa"), 0), (("a", value, "a"), 1), (("aa", "bb", value), 2), (("aa", "bb", "cc", value), 3)]
    return found + list(WRONG_TUPLES)


class WrongLines(Wrong):
    def assert_lines(self, action, right, name):
        """Each value that is no lines is told with its index, also with wrong values behind it."""
        names = list(right)
        at = names.index(name)
        for value, index in no_lines():
            for more in (list(right.values())[at + 1:], *[[other] * (len(names) - at - 1) for other in MORE[:9]]):
                arguments = [*list(right.values())[:at], value, *more]
                self.assert_raised(action, arguments, names, errors.InvalidLines, {"index": index})

    def test_lines_alone(self):
        for action in (least_lines_handles, are_flat, flat_lines_sides, are_even, plain_lines):
            self.assert_lines(action, {"lines": RINGS}, "lines")

    def test_sides(self):
        self.assert_lines(lines_handles, {"lines": RINGS, "sides": "++"}, "lines")
        for lines in (("aa",), RINGS, ("a", "ab", "b"), NINE, ("abcdefghij", "jihgf", "edcba")):
            number = len("".join(lines)) // 2
            for sides in no_signs_of("+-", number):
                self.assert_raised(lines_handles, [lines, sides], ["lines", "sides"], errors.InvalidSides, {"given": sides})

    def test_too_many(self):
        for action in (least_lines_handles, are_flat, flat_lines_sides):
            for lines in (NINE, ("abcdefghij", "jihgf", "edcba"), ("abcdefghiabcdefghi",), ("aabbccddee", "ffgghh", "ii")):
                self.assert_raised(action, [lines], ["lines"], errors.TooMany, {"most": 8})
            # What are no lines are told so also with many letters.
            self.assert_raised(action, [("abcdefghij", "abcdefghi")], ["lines"], errors.InvalidLines, {"index": None})

    def test_shared(self):
        names = ["lines", "first", "second"]
        self.assert_lines(shared, {"lines": RINGS, "first": 0, "second": 1}, "lines")
        for lines in (RINGS, ("a", "ab", "b")):
            for index in no_integers_from_to(0, len(lines) - 1):
                for second in (0, 1, 5, *MORE):
                    self.assert_raised(shared, [lines, index, second], names, errors.InvalidIndex, {"given": index})
                self.assert_raised(shared, [lines, 1, index], names, errors.InvalidIndex, {"given": index})
            for index in range(len(lines)):
                self.assert_raised(shared, [lines, index, index], names, errors.InvalidIndex, {"given": index})
        for index in (0, 1, -1):
            self.assert_raised(shared, [("aa",), 0, index], names, errors.InvalidIndex, {"given": index})

    def test_letters(self):
        names = ["lines", "letter"]
        for action in (joined, parted):
            self.assert_lines(action, {"lines": RINGS, "letter": "a"}, "lines")
            for lines in (RINGS, ("abab",), ("c", "cjdd", "j")):
                for letter in no_letters_of("".join(lines)):
                    self.assert_raised(action, [lines, letter], names, errors.InvalidLetter, {"given": letter})

    def test_letters_of_the_other_kind(self):
        names = ["lines", "letter"]
        for lines, letter in ((("abab",), "a"), (("aa",), "a"), (("aab", "b"), "a"), (("b", "b", "aa"), "a")):
            self.assert_raised(joined, [lines, letter], names, errors.InvalidLetter, {"given": letter})
        # That it stands in two lines is told ahead of what comes last.
        for lines, letter in ((RINGS, "b"), (("aab", "b"), "b"), (("a", "a"), "a"), (("ab", "bc", "ca"), "c")):
            self.assert_raised(parted, [lines, letter], names, errors.InvalidLetter, {"given": letter})

    def test_nothing_left(self):
        names = ["lines", "letter"]
        for lines in (("a", "a"), ("a", "a", "bb"), ("bb", "a", "a"), ("a", "bb", "a")):
            self.assert_raised(joined, [lines, "a"], names, errors.NoMove, {})
        self.assert_raised(parted, [("aa",), "a"], names, errors.NoMove, {})

    def test_four_lines(self):
        names = ["lines", "letter"]
        for lines in (("abab", "cc", "dd"), ("c", "c", "abab"), ("cabac", "b", "dd")):
            self.assert_raised(parted, [lines, "a"], names, errors.TooMany, {"most": 3})
        # A piece without letters is no line.
        self.assertEqual(parted(("aabb", "cc", "dd"), "a"), ("bb", "cc", "dd"))

    def test_same_lines(self):
        right = {"one": RINGS, "other": ("aa",)}
        self.assert_lines(are_same_lines, right, "one")
        self.assert_lines(are_same_lines, right, "other")
