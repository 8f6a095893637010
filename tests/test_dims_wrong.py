from selfcrossed import errors
from selfcrossed.dims import (
    best_looks, count_fillings, fillings, fillings_like, flat_fillings, flat_word, handles_of, hidden, is_dim, looks_needed,
    never_links, nth_filling, sure_links, sure_pairs, turns_of,
)
from tests.kinds import (
    EqualToAll, LikeOne, Touchy, nested, no_integers_from_to, no_rows, no_strings_or_integers, some_integers,
    some_strings,
)
from tests.wrongs import Wrong

ROWS = (no_rows(), errors.InvalidRow)
SIX = "abcdefabcdef"


def no_dims():
    """List values of every kind that are no dim rows."""
    strings = [
        "a", "aa", "abab", "?a?", "aaa?", "abc?", "???????", "????????", "a? ", "a?\n", "A?", "k?", "abcdef??????", "aabbccddee??", "a???????",
        "abcdefg???", "??" * 4000, "?.", "*?", "a-??",
    ]
    tuples = [("a", "?"), ["?", "?"], b"??", b"a?", {"??": 1}]
    return no_strings_or_integers() + [text for text in some_strings() if text != "??"] + some_integers() + strings + tuples


DIMS = (no_dims(), errors.InvalidDim)


def no_places_of(row):
    """List values of every kind that are no one to six places of the row, ascending."""
    size = len(row)
    tuples = [
        (), (size,), (-1,), (0, 0), (1, 0), (0, 2, 1), (0, 1, size), (True,), (False,), (0, True), (LikeOne(),), (EqualToAll(),), (Touchy(),),
        ("0",), (None,), ((0,),), (0, 1, 1), tuple(range(7)), tuple(range(1000)), (10 ** 59,), (0, 10 ** 59), (-10 ** 59, 0), (1j,), (b"",), (0, None),
    ]
    values = [value for value in no_strings_or_integers() if not isinstance(value, tuple)]
    return values + some_strings() + some_integers() + tuples + [nested(20), ("aa",), [0], {0: 1}, range(2), "01"]


class WrongDims(Wrong):
    def test_is_dim(self):
        for value in no_dims():
            self.assertIs(is_dim(value), False)
            self.assertIs(is_dim(value=value), False)

    def test_dim_alone(self):
        actions = (
            count_fillings, fillings, flat_fillings, flat_word, handles_of, sure_links, never_links, turns_of, sure_pairs, looks_needed, best_looks,
        )
        for action in actions:
            self.assert_each_is_told(action, {"dim": "ab??"}, {"dim": DIMS})

    def test_index(self):
        for dim, number in (("??", 1), ("ab??", 2), ("a?b?c?d???", 360)):
            indexes = (no_integers_from_to(0, number - 1), errors.InvalidIndex)
            self.assert_each_is_told(nth_filling, {"dim": dim, "index": number - 1}, {"dim": DIMS, "index": indexes})

    def test_row(self):
        self.assert_each_is_told(fillings_like, {"dim": "ab??", "row": "abab"}, {"dim": DIMS, "row": ROWS})

    def test_hidden(self):
        rows = (no_rows() + [SIX, "aabbccddeeff", "abcdefghijabcdefghij"], errors.InvalidRow)
        for row in ("aa", "abab", "abcdeabcde"):
            wrong = {"row": rows, "places": (no_places_of(row), errors.InvalidPlace)}
            self.assert_each_is_told(hidden, {"row": row, "places": (0, 1)}, wrong)

    def test_most_places(self):
        self.assertEqual([hidden("abcabc", (0, 1, 2, 3, 4, 5)), hidden("abcdeabcde", (1, 2, 3, 4, 5, 9))], ["??????", "a?????bcd?"])
