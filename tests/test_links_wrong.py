from selfcrossed import errors
from selfcrossed.links import (
    alike_rows, are_linked, between, bunches, hang_alike, linked_with, links, put_in, rank, table,
)
from tests.kinds import no_integers_from_to, no_letters_of, no_rows
from tests.wrongs import Wrong

SIX = "abcdefabcdef"
ROWS = (no_rows(), errors.InvalidRow)


class WrongLinks(Wrong):
    def test_row_alone(self):
        for action in (links, bunches, table, rank, alike_rows):
            self.assert_each_is_told(action, {"row": "abab"}, {"row": ROWS})

    def test_letters(self):
        for row in ("abab", "jj", "bcdbcd"):
            letters = (no_letters_of(row), errors.InvalidLetter)
            for action in (linked_with, between):
                self.assert_each_is_told(action, {"row": row, "letter": row[0]}, {"row": ROWS, "letter": letters})
            right = {"row": row, "letter": row[0], "other": row[-1]}
            self.assert_each_is_told(are_linked, right, {"row": ROWS, "letter": letters, "other": letters})

    def test_put_in(self):
        for row in ("aa", "abcabc", "abcdefghiabcdefghi"):
            places = (no_integers_from_to(0, len(row) - 1), errors.InvalidPlace)
            wrong = {"row": ROWS, "place": places, "other": ROWS}
            self.assert_each_is_told(put_in, {"row": row, "place": 1, "other": "aa"}, wrong)

    def test_put_in_too_many(self):
        wrong = {"row": ROWS, "place": (no_integers_from_to(0, 11), errors.InvalidPlace), "other": ROWS}
        right = {"row": SIX, "place": 11, "other": "abcdeabcde"}
        self.assert_comes_last(put_in, right, wrong, errors.TooMany, {"most": 10})
        for row, other in (("aa", "abcdefghijabcdefghij"), ("abcdefghijabcdefghij", "aa"), ("abcdefghiabcdefghi", "abab")):
            self.assert_raised(put_in, [row, 0, other], ["row", "place", "other"], errors.TooMany, {"most": 10})

    def test_hang_alike(self):
        wrong = {"one": ROWS, "other": ROWS}
        self.assert_each_is_told(hang_alike, {"one": "abab", "other": "aa"}, wrong)
        for one, other in ((SIX, SIX), (SIX, "aa"), ("aa", SIX), ("abcdefghijabcdefghij", "aa")):
            self.assert_comes_last(hang_alike, {"one": one, "other": other}, wrong, errors.TooMany, {"most": 5})

    def test_alike_rows(self):
        for row in (SIX, "abcdefghijabcdefghij"):
            self.assert_raised(alike_rows, [row], ["row"], errors.TooMany, {"most": 5})
