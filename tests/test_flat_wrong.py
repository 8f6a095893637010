from selfcrossed import errors
from selfcrossed.flat import flat_by_links, flat_sides, handles, is_flat, regions, why_not
from selfcrossed.handles import (
    first_sides, greatest_handles, handles_spread, least_handles, one_region, two_shades,
)
from tests.kinds import no_integers_from_to, no_rows, no_signs_of
from tests.wrongs import Wrong

ROWS = (no_rows(), errors.InvalidRow)
NUMBERS = (no_integers_from_to(0, 10), errors.InvalidNumber)
NINE = "abcdefghiabcdefghi"
TEN = "abcdefghijabcdefghij"


class WrongFlat(Wrong):
    def test_row_alone(self):
        for action in (is_flat, flat_by_links, flat_sides, why_not):
            self.assert_each_is_told(action, {"row": "abab"}, {"row": ROWS})

    def test_sides(self):
        for row in ("aa", "bcbc", TEN):
            sides = (no_signs_of("+-", len(row) // 2), errors.InvalidSides)
            for action in (regions, handles, two_shades):
                right = {"row": row, "sides": "-" * (len(row) // 2)}
                self.assert_each_is_told(action, right, {"row": ROWS, "sides": sides})


class WrongHandles(Wrong):
    def test_row_alone(self):
        for action in (least_handles, greatest_handles, handles_spread, one_region):
            self.assert_each_is_told(action, {"row": "abab"}, {"row": ROWS})
            for row in (NINE, TEN):
                self.assert_comes_last(action, {"row": row}, {"row": ROWS}, errors.TooMany, {"most": 8})

    def test_first_sides(self):
        wrong = {"row": ROWS, "number": NUMBERS}
        self.assert_each_is_told(first_sides, {"row": "abab", "number": 1}, wrong)
        for row in (NINE, TEN):
            for number in (0, 10):
                self.assert_comes_last(first_sides, {"row": row, "number": number}, wrong, errors.TooMany, {"most": 8})
