from selfcrossed import errors
from selfcrossed.drawings import Drawing
from selfcrossed.moves import (
    back, by_threes, changes_of, done, fewest_moves, ins, is_move, least_moves_of, led, loosened, outs, without_loops,
)
from tests.kinds import (
    EqualToAll, LikeOne, Plain, Touchy, no_drawings, no_integers_from_to, no_strings_or_integers, some_integers,
    some_strings,
)
from tests.wrongs import Wrong

DRAWINGS = (no_drawings(), errors.NotADrawing)
CURL = Drawing("aa", "+", -1)
THREE = Drawing("abcabc", "+-+", -5)
TEN = Drawing("aabbccddeeffgghhiijj", "+" * 10, 1)
LOOP = ("loop", 0, "l")


def no_moves_of(drawing):
    """List values of every kind that are no moves for the drawing."""
    size = len(drawing.row)
    tuples = [
        (), ("loop",), ("loop", 0), ("loop", 0, "x"), ("loop", "l", 0), ("loop", size, "l"), ("loop", -1, "l"), ("loop", 0, "l", 0),
        ("loop", True, "l"), ("loop", False, "r"), ("loop", LikeOne(), "l"), ("loop", 0, EqualToAll()), (EqualToAll(), 0, "l"),
        ("loop", None, None), (None, 0, "l"), ("Loop", 0, "l"), ("loop ", 0, "l"), ("loop", 0, "L"), ("loop", 0, b"l"), (b"loop", 0, "l"),
        ("no loop", "z"), ("no loop", "k"), ("no loop", ""), ("no loop", 0), ("no loop", None), ("no loop", Touchy()), ("no loop",),
        ("pair", 0, 0), ("pair", 0, 0, 2), ("pair", 0, 0, -1), ("pair", 0, 0, False), ("pair", 0, -1, 0), ("pair", size, size, 0),
        ("pair", -1 - size, -1 - size, 0), ("pair", "a", "a", 0), ("pair", (0,), 0, 0), ("pair", Touchy(), Touchy(), Touchy()),
        ("no pair", "z", "k"), ("no pair", "j", "a"), ("no pair", "ab"), ("no pair", "a", "a"), ("no pair", 0, 1), ("no pair", "", ""),
        ("three",), ("three", size), ("three", -1 - size), ("three", None), ("three", True), ("three", "a"), ("three", 0, 0),
        ("two", 0), (("loop", 0, "l"),), ("loop", 10 ** 59, "l"), ("pair", 10 ** 59, 10 ** 59, 0), tuple(range(1000)), (LOOP, LOOP),
    ]
    lists = [["loop", 0, "l"], {"loop": 0}, "loop 0 l", drawing, drawing.regions]
    return no_strings_or_integers() + some_strings() + some_integers() + tuples + lists


class WrongMoves(Wrong):
    def test_drawing_alone(self):
        for action in (outs, ins, loosened, by_threes):
            self.assert_each_is_told(action, {"drawing": CURL}, {"drawing": DRAWINGS})

    def test_is_move(self):
        for drawing in no_drawings():
            self.assert_raised(is_move, [drawing, LOOP], ["drawing", "value"], errors.NotADrawing, {"given": drawing})
            self.assert_raised(is_move, [drawing, Touchy()], ["drawing", "value"], errors.NotADrawing, {"given": drawing})
        for drawing in (CURL, THREE, TEN):
            for value in no_moves_of(drawing):
                self.assertIs(is_move(drawing, value), False)
                self.assertIs(is_move(value=value, drawing=drawing), False)

    def test_move(self):
        rights = ((CURL, LOOP), (THREE, ("no pair", "a", "b")), (TEN, ("no loop", "a")))
        for drawing, move in rights:
            for action in (done, changes_of, back):
                wrong = {"drawing": DRAWINGS, "move": (no_moves_of(drawing), errors.InvalidMove)}
                self.assert_each_is_told(action, {"drawing": drawing, "move": move}, wrong)

    def test_moves_that_would_leave_no_letter_or_make_an_eleventh(self):
        nine = Drawing(TEN.row[:18], "+" * 9, 1)
        two = Drawing("abba", "+-", -2)
        wrong = [
            (CURL, ("no loop", "a")), (CURL, ("no pair", "a", "a")), (two, ("no pair", "a", "b")), (TEN, ("loop", 0, "l")),
            (TEN, ("loop", 19, "r")), (TEN, ("pair", 1, 1, 0)), (nine, ("pair", 1, 1, 0)), (nine, ("pair", 17, 1, 0)),
        ]
        for drawing, move in wrong:
            for action in (done, changes_of, back):
                self.assert_raised(action, [drawing, move], ["drawing", "move"], errors.InvalidMove, {"given": move})

    def test_number(self):
        wrong = {"one": DRAWINGS, "other": DRAWINGS, "number": (no_integers_from_to(1, 3), errors.InvalidNumber)}
        for action in (fewest_moves, without_loops):
            for one, other in ((CURL, THREE), (TEN, TEN)):
                self.assert_each_is_told(action, {"one": one, "other": other, "number": 3}, wrong)

    def test_two_drawings(self):
        self.assert_each_is_told(least_moves_of, {"one": CURL, "other": TEN}, {"one": DRAWINGS, "other": DRAWINGS})

    def test_by_threes(self):
        wrong = {"drawing": DRAWINGS}
        for text in ("abcdeabcfghijhgfdeij -+-+-+-+-+ -20", "abcdefghbaijhcfedgji +--+-+-++- -20"):
            right = {"drawing": Drawing.read(text)}
            self.assert_comes_last(by_threes, right, wrong, errors.TooMany, {"most": 100})


class WrongTuples(Wrong):
    def assert_moves(self, drawing, moves, index):
        self.assert_raised(led, [drawing, moves], ["drawing", "moves"], errors.InvalidMoves, {"index": index})

    def test_the_drawing_comes_first(self):
        for drawing in no_drawings():
            for moves in ((), (LOOP,), None, (None,), Touchy()):
                self.assert_raised(led, [drawing, moves], ["drawing", "moves"], errors.NotADrawing, {"given": drawing})

    def test_no_tuple(self):
        values = [value for value in no_strings_or_integers() if not isinstance(value, tuple)]
        for moves in values + some_strings() + some_integers() + [[LOOP], {LOOP: 0}, [], CURL]:
            self.assert_moves(CURL, moves, None)

    def test_the_first_that_is_none(self):
        for value in no_moves_of(CURL):
            self.assert_moves(CURL, (value,), 0)
            self.assert_moves(CURL, (value, Touchy(), None), 0)
        behind = Drawing("abba", "+-", -3)
        for value in no_moves_of(behind):
            self.assert_moves(CURL, (LOOP, value, Plain()), 1)
        self.assert_moves(CURL, LOOP, 0)
        self.assert_moves(CURL, (LOOP, ("no loop", "b"), ("no loop", "b"), LOOP), 2)
        self.assert_moves(CURL, (LOOP,) * 10, 9)
        self.assert_moves(TEN, (("no loop", "a"), LOOP, LOOP), 2)

    def test_sixty_first(self):
        moves = (LOOP, ("no loop", "b")) * 30
        for more in ((LOOP,), (None,), (LOOP, None), (Touchy(),) * 1000):
            self.assert_moves(CURL, moves + more, 60)
        # A move that is none ahead of it comes first.
        for index in (0, 30, 59):
            self.assert_moves(CURL, moves[:index] + (None,) + moves[index + 1:] + (LOOP,), index)
