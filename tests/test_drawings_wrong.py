from selfcrossed import errors
from selfcrossed.drawings import (
    Drawing, are_same, begun_at, count_drawings, drawings_of, is_own_mirror, mirror, plain_drawing, turned_out,
    walked_back,
)
from selfcrossed.flat import is_flat
from tests.few import few_rows, few_drawings
from tests.kinds import (
    EqualToAll, LikeOne, no_drawings, no_integers_from_to, no_rows, no_signs_of, no_strings_or_integers, some_integers,
    some_strings,
)
from tests.wrongs import Wrong

ROWS = (no_rows(), errors.InvalidRow)
DRAWINGS = (no_drawings(), errors.NotADrawing)
CURL = Drawing("aa", "+", -1)
THREE = Drawing("abcabc", "+-+", -5)
TEN = Drawing("aabbccddeeffgghhiijj", "+" * 10, 1)


def no_regions_of(drawing):
    """List values of every kind that are none of the drawing's regions."""
    tuples = [
        (), (0,) * 3, (0, -2), (True,), (False,), (-1, -1), (1, 1), (1.5j,), (LikeOne(),), (EqualToAll(),), ((1,),), ("1",), (None,),
        tuple(range(100)), (10 ** 59,), drawing.regions, drawing.regions[0] + (0,), drawing.regions[0][1:],
        drawing.regions[0] + drawing.regions[1], (*drawing.regions[0][:-1], True),
    ]
    lists = [list(region) for region in drawing.regions]
    turned = [region[1:] + region[:1] for region in drawing.regions if len(region) > 1]
    mirrored = [tuple([-1 - element for element in region]) for region in drawing.regions]
    wrong = [each for each in tuples + turned + mirrored if each not in drawing.regions or each in ((True,), (LikeOne(),))]
    values = [value for value in no_strings_or_integers() if value.__class__ is not tuple]
    return values + some_strings() + some_integers() + lists + wrong


class WrongMaking(Wrong):
    def test_each_argument(self):
        for row, sides, outside in (("aa", "+", -1), ("abcabc", "+-+", -5), (TEN.row, TEN.sides, 1)):
            wrong = {
                "row": ROWS, "sides": (no_signs_of("+-", len(sides)), errors.InvalidSides),
                "outside": (no_integers_from_to(-len(row), len(row) - 1) + [(outside,)], errors.InvalidOutside),
            }
            self.assert_each_is_told(Drawing, {"row": row, "sides": sides, "outside": outside}, wrong)

    def test_not_flat_comes_last(self):
        for row, sides in (("abab", "++"), ("abcabc", "+++"), ("abcdefghijabcdefghij", "+" * 10)):
            wrong = {
                "row": ROWS, "sides": (no_signs_of("+-", len(sides)), errors.InvalidSides),
                "outside": (no_integers_from_to(-len(row), len(row) - 1), errors.InvalidOutside),
            }
            for outside in (-len(row), 0, len(row) - 1):
                right = {"row": row, "sides": sides, "outside": outside}
                self.assert_comes_last(Drawing, right, wrong, errors.NotFlat, {})

    def test_texts(self):
        drawings = ["aa + -2", "aa + -1", "aa + 1", "abcabc +-+ -5"]
        changed = []
        for text in drawings:
            changed += [" " + text, text + " ", text.replace(" ", "  "), text.replace(" ", "\n"), text + "\n", text.upper(), text[:-1], text + "0"]
            changed += [text.encode(), (text,), [text], tuple(text.split(" ")), text.replace(" ", ""), text + " -1"]
        others = [
            "aa + 0", "aa + +1", "aa + 01", "aa + -01", "aa + -0", "aa + 1.0", "aa + -3", "aa + 2", "aa + x", "aa +", "aa", "aa  ",
            "aa + -1 -1", "aa - -1 ", "aa ++ -1", "aa x -1", "abab ++ 3", "abab ++ -4", "abab +- -3", "abcabc +-+ -1", "abcabc +++ -6",
            "aa + 1_0", "aa + " + "1" * 5000, "aa + --1", "ab + -1", "AA + -1", "  ",
        ]
        values = no_strings_or_integers() + some_strings() + some_integers() + changed + others
        self.assert_each_is_told(Drawing.read, {"text": "aa + -1"}, {"text": (values + [CURL], errors.InvalidText)})

    def test_texts_with_another_element_of_the_outside(self):
        for drawing in few_drawings(3):
            texts = [f"{drawing.row} {drawing.sides} {element}" for element in drawing.outside[1:]]
            self.assert_each_is_told(Drawing.read, {"text": drawing.text}, {"text": (texts, errors.InvalidText)})


class WrongDrawings(Wrong):
    def test_drawing_alone(self):
        for action in (walked_back, mirror, plain_drawing, is_own_mirror):
            self.assert_each_is_told(action, {"drawing": CURL}, {"drawing": DRAWINGS})

    def test_two_drawings(self):
        self.assert_each_is_told(are_same, {"one": CURL, "other": THREE}, {"one": DRAWINGS, "other": DRAWINGS})

    def test_begun_at(self):
        for drawing in (CURL, THREE, TEN):
            places = (no_integers_from_to(0, len(drawing.row) - 1), errors.InvalidPlace)
            self.assert_each_is_told(begun_at, {"drawing": drawing, "place": 1}, {"drawing": DRAWINGS, "place": places})

    def test_turned_out(self):
        for drawing in (CURL, THREE, TEN):
            found = (no_regions_of(drawing), errors.InvalidOutside)
            right = {"drawing": drawing, "region": drawing.regions[0]}
            self.assert_each_is_told(turned_out, right, {"drawing": DRAWINGS, "region": found})

    def test_drawings_of(self):
        self.assert_each_is_told(drawings_of, {"row": "aa"}, {"row": ROWS})
        for row in few_rows(4):
            if not is_flat(row):
                self.assert_raised(drawings_of, [row], ["row"], errors.NotFlat, {})
        # What is not flat is told so also with too many letters.
        for row in ("ababccddeeffgg", "abcdefghabcdefgh", "abcdefghijabcdefghij"):
            self.assert_raised(drawings_of, [row], ["row"], errors.NotFlat, {})
        for row in ("aabbccddeeffgg", "abcdefgabcdefg", TEN.row):
            self.assert_raised(drawings_of, [row], ["row"], errors.TooMany, {"most": 6})

    def test_count_drawings(self):
        numbers = (no_integers_from_to(1, 3), errors.InvalidNumber)
        self.assert_each_is_told(count_drawings, {"number": 1}, {"number": numbers})
