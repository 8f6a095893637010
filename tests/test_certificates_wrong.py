from selfcrossed import errors
from selfcrossed.certificates import (
    certify_apart, certify_flat, certify_handles, certify_least, certify_led, certify_lines, certify_opposite_way,
    certify_out, certify_rounds, certify_same, certify_same_way, certify_three_ways, certify_turns, certify_web,
)
from selfcrossed.drawings import Drawing
from tests.kinds import Plain, Touchy, no_drawings, no_rows, no_signs_of
from tests.test_lines_wrong import no_lines
from tests.wrongs import Wrong

ROWS = (no_rows(), errors.InvalidRow)
DRAWINGS = (no_drawings(), errors.NotADrawing)
CURL = Drawing("aa", "+", -1)
LOOP = ("loop", 0, "l")
SEVEN = "abcdefgabcdefg"
NINE = "abcdefghiabcdefghi"


class WrongCertificates(Wrong):
    def test_row_alone(self):
        for action in (certify_flat, certify_handles, certify_out):
            self.assert_each_is_told(action, {"row": "abab"}, {"row": ROWS})

    def test_two_rows(self):
        for action in (certify_same, certify_web):
            self.assert_each_is_told(action, {"one": "abab", "other": "aa"}, {"one": ROWS, "other": ROWS})

    def test_too_many(self):
        wrong = {"one": ROWS, "other": ROWS}
        for one, other in ((SEVEN, "aa"), ("aa", SEVEN), (NINE, SEVEN)):
            self.assert_comes_last(certify_web, {"one": one, "other": other}, wrong, errors.TooMany, {"most": 6})
        for row in (SEVEN, NINE):
            self.assert_comes_last(certify_out, {"row": row}, {"row": ROWS}, errors.TooMany, {"most": 6})
        for row in (NINE, "aabbccddeeffgghhiijj"):
            self.assert_comes_last(certify_handles, {"row": row}, {"row": ROWS}, errors.TooMany, {"most": 8})

    def test_turnings(self):
        for row in ("aa", "abcabc", "abcdefghijabcdefghij"):
            number = len(row) // 2
            wrong = {"row": ROWS, "turnings": (no_signs_of("=ox", number), errors.InvalidTurnings)}
            self.assert_each_is_told(certify_rounds, {"row": row, "turnings": "o" * number}, wrong)

    def test_drawing_alone(self):
        for action in (certify_turns, certify_same_way, certify_opposite_way, certify_three_ways):
            self.assert_each_is_told(action, {"drawing": CURL}, {"drawing": DRAWINGS})

    def test_two_drawings(self):
        for action in (certify_apart, certify_least):
            self.assert_each_is_told(action, {"one": CURL, "other": CURL}, {"one": DRAWINGS, "other": DRAWINGS})

    def test_moves(self):
        names = ["drawing", "moves"]
        for drawing in no_drawings():
            for moves in ((), None, (None,), Touchy()):
                self.assert_raised(certify_led, [drawing, moves], names, errors.NotADrawing, {"given": drawing})
        there_and_back = (LOOP, ("no loop", "b"))
        told = [
            (None, None), ([LOOP], None), ("", None), (Touchy(), None), ((None,), 0), (LOOP, 0), ((LOOP, None), 1), ((LOOP, Touchy(), None), 1),
            (there_and_back * 30 + (LOOP,), 60), (there_and_back * 2 + (Plain(),), 4),
        ]
        for moves, index in told:
            self.assert_raised(certify_led, [CURL, moves], names, errors.InvalidMoves, {"index": index})

    def test_lines(self):
        for value, index in no_lines():
            self.assert_raised(certify_lines, [value], ["lines"], errors.InvalidLines, {"index": index})
        for lines in (("abcdefghi", "abcdefghi"), ("aabbccddee", "ffgghh", "iijj"), (NINE,)):
            self.assert_raised(certify_lines, [lines], ["lines"], errors.TooMany, {"most": 8})
