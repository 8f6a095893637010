from selfcrossed import errors
from selfcrossed.turnings import (
    all_against, all_along, count_rounds, count_tours, one_web, rounds, rounds_by_table, tour, tours, tours_along,
    turnings_between,
)
from tests.kinds import no_rows, no_signs_of
from tests.wrongs import Wrong

ROWS = (no_rows(), errors.InvalidRow)
SEVEN = "abcdefgabcdefg"
NINE = "abcdefghiabcdefghi"
TEN = "abcdefghijabcdefghij"


class WrongTurnings(Wrong):
    def test_row_alone(self):
        for action in (all_against, all_along, tours, count_tours, tours_along):
            self.assert_each_is_told(action, {"row": "abab"}, {"row": ROWS})

    def test_turnings(self):
        for row in ("aa", "bcbc", TEN):
            turnings = (no_signs_of("=ox", len(row) // 2), errors.InvalidTurnings)
            for action in (count_rounds, rounds, rounds_by_table, tour):
                for sign in "=ox":
                    right = {"row": row, "turnings": sign * (len(row) // 2)}
                    self.assert_each_is_told(action, right, {"row": ROWS, "turnings": turnings})

    def test_too_many(self):
        for row in (SEVEN, NINE, TEN):
            self.assert_comes_last(tours, {"row": row}, {"row": ROWS}, errors.TooMany, {"most": 6})
        for row in (NINE, TEN):
            for action in (count_tours, tours_along):
                self.assert_comes_last(action, {"row": row}, {"row": ROWS}, errors.TooMany, {"most": 8})

    def test_two_rows(self):
        wrong = {"one": ROWS, "other": ROWS}
        for action in (one_web, turnings_between):
            self.assert_each_is_told(action, {"one": "aa", "other": "abab"}, wrong)
            for one, other in ((SEVEN, SEVEN), (SEVEN, "aa"), ("aa", SEVEN), (TEN, "aa"), ("abab", TEN)):
                self.assert_comes_last(action, {"one": one, "other": other}, wrong, errors.TooMany, {"most": 6})
