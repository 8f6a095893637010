from selfcrossed import errors
from selfcrossed.drawings import Drawing
from selfcrossed.flat import is_flat
from selfcrossed.numbers import (
    area, least_same_way, letter_numbers, most_turns, on_a_ball, opposite_way, outsides_with, region_numbers, rings,
    same_way, signs, standard, three_ways, turns, turns_spread, twice_mean,
)
from tests.few import few_rows
from tests.kinds import (
    EqualToAll, LikeOne, Plain, Touchy, no_drawings, no_integers_from_to, no_rows, no_strings_or_integers, some_integers,
    some_strings,
)
from tests.wrongs import Wrong

ROWS = (no_rows(), errors.InvalidRow)
DRAWINGS = (no_drawings(), errors.NotADrawing)
CURL = Drawing("aa", "+", -1)
THREE = Drawing("abcabc", "+-+", -5)
TEN = Drawing("aabbccddeeffgghhiijj", "+" * 10, 1)


class WrongNumbers(Wrong):
    def test_drawing_alone(self):
        actions = (
            region_numbers, letter_numbers, turns, same_way, opposite_way, three_ways, on_a_ball, rings,
        )
        for action in actions:
            self.assert_each_is_told(action, {"drawing": CURL}, {"drawing": DRAWINGS})

    def test_edges(self):
        for drawing in (CURL, THREE, TEN):
            edges = (no_integers_from_to(0, len(drawing.row) - 1), errors.InvalidPlace)
            for action in (signs, twice_mean):
                self.assert_each_is_told(action, {"drawing": drawing, "edge": 0}, {"drawing": DRAWINGS, "edge": edges})

    def test_outsides_with(self):
        numbers = (no_integers_from_to(-100, 100), errors.InvalidNumber)
        for number in (-100, 0, 100):
            right = {"drawing": CURL, "number": number}
            self.assert_each_is_told(outsides_with, right, {"drawing": DRAWINGS, "number": numbers})

    def test_standard(self):
        numbers = (no_integers_from_to(-9, 9), errors.InvalidNumber)
        self.assert_each_is_told(standard, {"number": 9}, {"number": numbers})

    def test_rows(self):
        for action in (most_turns, least_same_way, turns_spread):
            self.assert_each_is_told(action, {"row": "aa"}, {"row": ROWS})
            for row in [row for row in few_rows(3) if not is_flat(row)]:
                self.assert_raised(action, [row], ["row"], errors.NotFlat, {})
            # What is not flat is told so also with too many letters.
            for row in ("ababccddeeffgghhii", "abcdefghijabcdefghij"):
                self.assert_raised(action, [row], ["row"], errors.NotFlat, {})
            for row in ("aabbccddeeffgghhii", "abcdefghiabcdefghi", TEN.row):
                self.assert_raised(action, [row], ["row"], errors.TooMany, {"most": 8})


class WrongSizes(Wrong):
    def assert_sizes(self, drawing, sizes, index):
        self.assert_raised(area, [drawing, sizes], ["drawing", "sizes"], errors.InvalidAreas, {"index": index})

    def test_the_drawing_comes_first(self):
        for drawing in no_drawings():
            for sizes in ((1, 5, 2), None, (), (True, 1), Touchy()):
                told = {"given": drawing}
                self.assert_raised(area, [drawing, sizes], ["drawing", "sizes"], errors.NotADrawing, told)

    def test_no_tuple_or_another_number(self):
        values = [value for value in no_strings_or_integers() if not isinstance(value, tuple)] + some_strings()
        for sizes in values + some_integers() + [[1, 5, 2], {0: 1, 1: 5, 2: 2}, range(3), "152", b"152"]:
            self.assert_sizes(CURL, sizes, None)
        for drawing in (CURL, THREE, TEN):
            many = len(drawing.regions)
            for sizes in ((), (1,) * (many - 1), (1,) * (many + 1), (None,) * (many - 1), (-1,) * (many + 1), (1,) * 1000):
                self.assert_sizes(drawing, sizes, None)

    def test_the_first_that_is_none(self):
        wrong = [value for value in no_strings_or_integers()] + some_strings() + [-1, 10 ** 20 + 1, 10 ** 60 - 1, 1 - 10 ** 60]
        for drawing in (CURL, THREE, TEN):
            many = len(drawing.regions)
            for index in range(many):
                for value in wrong if many < 6 else (None, True, -1, 10 ** 20 + 1, Touchy(), Plain(), LikeOne(), EqualToAll()):
                    sizes = (0,) * index + (value,) + (10 ** 20,) * (many - index - 1)
                    self.assert_sizes(drawing, sizes, index)
                    self.assert_sizes(drawing, (0,) * index + (value,) + (None,) * (many - index - 1), index)
