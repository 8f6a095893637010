from selfcrossed import errors
from selfcrossed.drawings import Drawing
from selfcrossed.parts import (
    count_flat_parts, crossed_once, exchanges, fewest_out, flat_parts, handles_without, ways_in,
)
from tests.kinds import no_drawings, no_rows
from tests.wrongs import Wrong

EIGHT = "abcdefghabcdefgh"
NINE = "abcdefghiabcdefghi"
TEN = "abcdefghijabcdefghij"
ROWS = (no_rows(), errors.InvalidRow)


class WrongParts(Wrong):
    def test_row_alone(self):
        for action in (fewest_out, flat_parts, count_flat_parts, handles_without, exchanges, crossed_once):
            self.assert_each_is_told(action, {"row": "abab"}, {"row": ROWS})

    def test_too_many(self):
        for action in (fewest_out, flat_parts, count_flat_parts, handles_without):
            for row in (NINE, TEN, "aabbccddeeffgghhii"):
                self.assert_comes_last(action, {"row": row}, {"row": ROWS}, errors.TooMany, {"most": 8})

    def test_too_many_to_be_crossed_once_more(self):
        for row in (EIGHT, NINE, TEN, "aabbccddeeffgghh"):
            self.assert_comes_last(crossed_once, {"row": row}, {"row": ROWS}, errors.TooMany, {"most": 8})

    def test_ways_in(self):
        drawings = (no_drawings(), errors.NotADrawing)
        self.assert_each_is_told(ways_in, {"drawing": Drawing("aa", "+", 0)}, {"drawing": drawings})
        ten = Drawing("aabbccddeeffgghhiijj", "+" * 10, 1)
        self.assert_comes_last(ways_in, {"drawing": ten}, {"drawing": drawings}, errors.TooMany, {"most": 10})
