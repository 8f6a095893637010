"""What [16] and [17] and the interface say of moves, gone through for all drawings with few letters."""

import itertools
import unittest
from fractions import Fraction

from selfcrossed.drawings import Drawing, are_same, mirror, plain_drawing, turned_out, walked_back
from selfcrossed.moves import (
    back, by_threes, changes_of, done, fewest_moves, ins, is_move, least_moves_of, led, loosened, outs, without_loops,
)
from selfcrossed.numbers import opposite_way, region_numbers, same_way, three_ways, turns
from tests.few import drawings_with, few_drawings
from tests.kinds import EqualToAll, LikeOne, Plain, Touchy, no_drawings
from tests.pictures import Numbers, Picture, pictures
from tests.surgery import edge_of, moves_by_hand, told_of

TEN = "aabbccddeeffgghhiijj"
CURL = Drawing("aa", "+", -1)
EIGHT = Drawing("aa", "+", 0)
THREE = Drawing("abcabc", "+-+", -5)


def some_drawings():
    """All drawings with up to three letters and some with four and five, with letters in several orders."""
    return few_drawings(3) + few_drawings(4)[::67] + drawings_with(5)[::431]


def all_moves(drawing):
    return outs(drawing) + ins(drawing)


def five(drawing):
    return drawing.size, turns(drawing), same_way(drawing), opposite_way(drawing), three_ways(drawing)


def rest_of(row, letters):
    return "".join([letter for letter in row if letter not in letters])


def side(drawing, letter):
    return drawing.sides[sorted(set(drawing.row)).index(letter)]


class WhichMoves(unittest.TestCase):
    def test_all_that_there_are(self):
        for drawing in some_drawings():
            told = moves_by_hand(drawing)
            words = ("no loop", "no pair", "three")
            self.assertEqual(list(outs(drawing)), sorted([move for move in told if move[0] in words]))
            self.assertEqual(list(ins(drawing)), sorted([move for move in told if move[0] not in words]))

    def test_each_one_is_a_move(self):
        for drawing in few_drawings(2) + few_drawings(3)[::5]:
            for move in all_moves(drawing):
                self.assertIs(is_move(drawing, move), True)

    def test_no_other_tuple_of_small_elements_is_a_move(self):
        small = list(range(-7, 7)) + ["a", "b", "c", "d", "l", "r"]
        words = ["loop", "no loop", "pair", "no pair", "three", "two", ""]
        for drawing in [CURL, EIGHT, THREE] + drawings_with(2)[::6] + drawings_with(3)[::60]:
            told = moves_by_hand(drawing)
            for word in words:
                self.assertIs(is_move(drawing, (word,)), False)
                for many in (1, 2):
                    for rest in itertools.product(small, repeat=many):
                        self.assertIs(is_move(drawing, (word, *rest)), (word, *rest) in told)
                if word in ("pair", "loop"):
                    for rest in itertools.product(range(-7, 7), range(-7, 7), (-1, 0, 1, 2)):
                        self.assertIs(is_move(drawing, (word, *rest)), (word, *rest) in told)
            self.assertIs(is_move(drawing, ()), False)

    def test_other_kinds_are_no_moves(self):
        for drawing in (CURL, THREE, Drawing(TEN, "+" * 10, 1)):
            for value in no_drawings() + [drawing]:
                self.assertIs(is_move(drawing, value), False)
        three = done(CURL, ("pair", 0, -2, 0))
        likes = [
            (CURL, ["loop", 0, "l"]), (CURL, ("loop", False, "l")), (CURL, ("loop", True, "r")), (CURL, ("loop", LikeOne(), "r")),
            (CURL, ("loop", 0, EqualToAll())), (CURL, (EqualToAll(), 0, "l")), (CURL, EqualToAll()), (CURL, ("loop", 0, "l", 0)),
            (CURL, ("pair", 0, -2, False)), (CURL, ("pair", -2, False, 0)), (CURL, ("pair", True, 1, 0)), (CURL, ("pair", 1, True, 0)),
            (CURL, ("pair", 0, -2)), (CURL, ("pair", 0, -2, 0, 0)), (CURL, ("loop", 0, b"l")), (CURL, ("loop", "0", "l")),
            (CURL, ("loop", 0, "lr")), (CURL, ("loop", 0, "")), (CURL, ("loop", 0, ("l",))), (CURL, ("loop", Touchy(), Plain())),
            (three, ("three", True)), (three, ("no pair", "c", "b")), (three, ("no pair", "bc")),
        ]
        for drawing, value in likes:
            self.assertIs(is_move(drawing, value), False)

    def test_parts(self):
        for drawing in few_drawings(3)[::3]:
            for region in drawing.regions:
                for one, other in itertools.product(region, region):
                    told = [is_move(drawing, ("pair", one, other, part)) for part in (-1, 0, 1, 2)]
                    self.assertEqual(told, [False, True, region == drawing.outside, False])


class Made(unittest.TestCase):
    def test_regions_and_the_outside(self):
        for drawing in some_drawings():
            for move in all_moves(drawing):
                if move[0] in ("loop", "pair", "three"):
                    made = done(drawing, move)
                    self.assertEqual((made.regions, made.outside), told_of(drawing, move), (drawing.text, move))

    def test_rows_of_loops(self):
        for drawing in some_drawings():
            new = [letter for letter in "abcdefghij" if letter not in drawing.row][0]
            for edge in range(len(drawing.row)):
                for way, told in (("l", "-"), ("r", "+")):
                    made = done(drawing, ("loop", edge, way))
                    self.assertEqual(made.row, drawing.row[:edge + 1] + new + new + drawing.row[edge + 1:])
                    self.assertEqual(side(made, new), told)
                    self.assertEqual([side(made, letter) for letter in drawing.row], [side(drawing, letter) for letter in drawing.row])

    def test_rows_of_pairs(self):
        for drawing in some_drawings():
            p, q = [letter for letter in "abcdefghij" if letter not in drawing.row][:2]
            for move in ins(drawing):
                if move[0] == "pair":
                    pieces = ["" for _ in drawing.row]
                    _, one, other, _ = move
                    pieces[edge_of(one)] = p + q if one >= 0 else q + p
                    pieces[edge_of(other)] = q + p if other >= 0 else p + q
                    if one == other:
                        pieces[edge_of(one)] = p + q + q + p
                    made = done(drawing, move)
                    self.assertEqual(made.row, "".join([letter + piece for letter, piece in zip(drawing.row, pieces)]))
                    self.assertEqual({side(made, p), side(made, q)}, {"+", "-"})
                    self.assertEqual([side(made, letter) for letter in drawing.row], [side(drawing, letter) for letter in drawing.row])

    def test_sides_of_pairs(self):
        # One stretch backwards turns p over, and the later one pushed over the earlier one turns it once more.
        told = {
            ("pair", 0, -2, 0): "-+", ("pair", -2, 0, 0): "+-", ("pair", 1, 1, 0): "+-", ("pair", -1, -1, 0): "-+",
            ("pair", 0, 0, 0): "+-", ("pair", -2, -2, 0): "-+",
        }
        for move, sides in told.items():
            made = done(CURL, move)
            self.assertEqual(side(made, "b") + side(made, "c"), sides)

    def test_letters_taken_out(self):
        for drawing in some_drawings():
            for move in outs(drawing):
                if move[0] != "three":
                    made = done(drawing, move)
                    gone = "".join(move[1:])
                    self.assertEqual(made.row, rest_of(drawing.row, gone))
                    self.assertEqual([side(made, letter) for letter in made.row], [side(drawing, letter) for letter in made.row])

    def test_rows_of_threes(self):
        for drawing in few_drawings(4) + drawings_with(5)[::97]:
            for move in outs(drawing):
                if move[0] == "three":
                    row = list(drawing.row)
                    region = [region for region in drawing.regions if region[0] == move[1]][0]
                    for element in region:
                        edge, following = edge_of(element), (edge_of(element) + 1) % len(row)
                        row[edge], row[following] = row[following], row[edge]
                    made = done(drawing, move)
                    self.assertEqual(made.row, "".join(row))
                    self.assertEqual((made.regions, made.outside), told_of(drawing, move))
                    self.assertEqual(abs(changes_of(drawing, move)[4]), 1)

    def test_outs_undo_ins(self):
        for drawing in few_drawings(3):
            new = [letter for letter in "abcdefghij" if letter not in drawing.row]
            for move in ins(drawing):
                undo = ("no loop", new[0]) if move[0] == "loop" else ("no pair", new[0], new[1])
                made = done(drawing, move)
                self.assertIn(undo, outs(made))
                self.assertTrue(done(made, undo) == drawing)

    def test_threes_undo_themselves(self):
        for drawing in few_drawings(4) + drawings_with(5)[::97]:
            for move in outs(drawing):
                if move[0] == "three":
                    made = done(drawing, move)
                    again = [done(made, other) for other in outs(made) if other[0] == "three"]
                    self.assertTrue(any(other == drawing for other in again))

    def test_both_orders_of_a_pair(self):
        for drawing in few_drawings(2) + few_drawings(3)[::7]:
            for move in ins(drawing):
                if move[0] == "pair" and move[1] != move[2]:
                    _, one, other, part = move
                    is_outside = one in drawing.outside
                    turned = done(drawing, ("pair", other, one, 1 - part if is_outside else part))
                    self.assertTrue(are_same(turned, done(drawing, move)))

    def test_nothing_is_changed(self):
        for drawing in (CURL, EIGHT, THREE):
            told = (drawing.text, drawing.regions)
            for move in all_moves(drawing):
                for action in (done, changes_of, back, is_move):
                    action(drawing, move)
            for action in (outs, ins, loosened, by_threes):
                action(drawing)
            self.assertEqual((drawing.text, drawing.regions), told)


class Changes(unittest.TestCase):
    def test_what_is_added(self):
        for drawing in few_drawings(2) + few_drawings(3)[::6] + few_drawings(4)[::301]:
            for move in all_moves(drawing):
                told = tuple([new - old for old, new in zip(five(drawing), five(done(drawing, move)))])
                self.assertEqual(changes_of(drawing, move), told)

    def test_loops(self):
        for drawing in some_drawings():
            numbers = {element: number for region, number in zip(drawing.regions, region_numbers(drawing)) for element in region}
            for edge in range(len(drawing.row)):
                left, right = changes_of(drawing, ("loop", edge, "l")), changes_of(drawing, ("loop", edge, "r"))
                self.assertEqual(left[:4], (1, 1, -2 * numbers[edge], -2 * numbers[edge] - 1))
                self.assertEqual(right[:4], (1, -1, 2 * numbers[-1 - edge], 2 * numbers[-1 - edge] - 1))

    def test_pairs(self):
        for drawing in few_drawings(2) + few_drawings(3)[::2] + few_drawings(4)[::101]:
            for move in ins(drawing):
                if move[0] == "pair":
                    run_same_way = (move[1] < 0) != (move[2] < 0)
                    self.assertEqual(changes_of(drawing, move), (2, 0, 2, 0, 0) if run_same_way else (2, 0, 0, -2, 0))

    def test_pairs_pulled_away_and_threes(self):
        for drawing in few_drawings(4):
            for move in outs(drawing):
                told = changes_of(drawing, move)
                if move[0] == "no pair":
                    self.assertIn(told, [(-2, 0, -2, 0, 0), (-2, 0, 0, 2, 0)])
                if move[0] == "three":
                    self.assertIn(told, [(0, 0, 0, 0, 1), (0, 0, 0, 0, -1)])
                if move[0] == "no loop":
                    self.assertEqual([told[0], abs(told[1]), told[3]], [-1, 1, told[2] + 1])


class Back(unittest.TestCase):
    def test_each_move(self):
        for drawing in few_drawings(2) + few_drawings(3)[::6] + few_drawings(4)[::131] + drawings_with(5)[::977]:
            for move in all_moves(drawing):
                made = done(drawing, move)
                other = back(drawing, move)
                self.assertIs(is_move(made, other), True)
                self.assertTrue(are_same(done(made, other), drawing), (drawing.text, move))

    def test_outs_of_drawings_with_four_letters(self):
        for drawing in few_drawings(3) + few_drawings(4)[::5] + drawings_with(5)[::61]:
            for move in outs(drawing):
                made = done(drawing, move)
                self.assertTrue(are_same(done(made, back(drawing, move)), drawing), (drawing.text, move))

    def test_ten_letters(self):
        drawing = Drawing(TEN, "+" * 10, 1)
        for move in outs(drawing):
            self.assertTrue(are_same(done(done(drawing, move), back(drawing, move)), drawing))


class Led(unittest.TestCase):
    def test_none(self):
        for drawing in few_drawings(2):
            self.assertTrue(led(drawing, ()) == drawing)

    def test_one_after_the_other(self):
        numbers = Numbers(3)
        for drawing in few_drawings(2) + few_drawings(3)[::9]:
            now, moves = drawing, []
            for _ in range(8):
                found = all_moves(now)
                moves.append(found[numbers.below(len(found))])
                now = done(now, moves[-1])
                self.assertTrue(led(drawing, tuple(moves)) == now)

    def test_sixty(self):
        moves = (("loop", 0, "l"), ("no loop", "b")) * 30
        self.assertTrue(led(CURL, moves) == CURL)
        self.assertEqual(led(CURL, moves[:59]).text, "abba +- -3")

    def test_each_is_asked_of_the_drawing_then(self):
        # Neither of the two last ones is a move for the drawing at the beginning, nor makes the same of it.
        self.assertEqual(led(CURL, (("loop", 0, "l"), ("no loop", "a"), ("loop", 1, "r"))).row, "bbaa")


class Loosened(unittest.TestCase):
    def test_none_is_left(self):
        for drawing in few_drawings(3) + few_drawings(4)[::13] + drawings_with(5)[::211]:
            moves = loosened(drawing)
            self.assertIsInstance(moves, tuple)
            self.assertLessEqual({move[0] for move in moves}, {"no loop", "no pair"})
            last = led(drawing, moves)
            self.assertEqual([move for move in outs(last) if move[0] != "three"], [])

    def test_pictures(self):
        for picture in pictures(60):
            drawing = Drawing(picture.row, picture.sides(), picture.outside())
            last = led(drawing, loosened(drawing))
            self.assertEqual([move for move in outs(last) if move[0] != "three"], [])

    def test_threes_alone_are_left(self):
        # A line of whose regions none has fewer than three edges.
        for row, sides in (("abcdeafcgehfbgdh", "+--++-+-"), ("abcdefbgdhfagche", "++--++-+")):
            for element in range(-16, 16):
                drawing = Drawing(row, sides, element)
                self.assertGreaterEqual(min([len(region) for region in drawing.regions]), 3)
                self.assertEqual({move[0] for move in outs(drawing)}, {"three"})
                self.assertEqual(loosened(drawing), ())
                for move in outs(drawing):
                    self.assertTrue(are_same(done(done(drawing, move), back(drawing, move)), drawing))

    def test_nothing_to_do(self):
        self.assertEqual([loosened(CURL), loosened(EIGHT), loosened(THREE)[0][0]], [(), (), "no pair"])


class ByThrees(unittest.TestCase):
    def test_all_that_come(self):
        for drawing in few_drawings(4)[::9] + drawings_with(5)[::97]:
            reached = {plain_drawing(drawing).text: drawing}
            left = [drawing]
            while left:
                one = left.pop()
                for move in outs(one):
                    if move[0] == "three":
                        made = done(one, move)
                        if plain_drawing(made).text not in reached:
                            reached[plain_drawing(made).text] = made
                            left.append(made)
            found = by_threes(drawing)
            self.assertEqual([each.text for each in found], sorted(reached))
            self.assertTrue(all(plain_drawing(each) == each for each in found))

    def test_itself_alone(self):
        self.assertEqual([[each.text for each in by_threes(drawing)] for drawing in (CURL, EIGHT)], [["aa + -1"], ["aa + -2"]])

    def test_just_a_hundred(self):
        for text in ("abcdefdefghaijbhgcji +-++-+-++- 11", "abcdecffghiadebjhgji -++-+++--+ -13"):
            drawing = Drawing.read(text)
            found = [each.text for each in by_threes(drawing)]
            self.assertEqual([len(found), found], [100, sorted(found)])
            self.assertIn(plain_drawing(drawing).text, found)


class Searched(unittest.TestCase):
    def steps_by_hand(self, words, number):
        """For all pairs of plain drawings the least number of moves, by going on from each one."""
        texts = sorted({plain_drawing(drawing).text for size in range(1, number + 1) for drawing in drawings_with(size)})
        nearby = {}
        for text in texts:
            drawing = Drawing.read(text)
            moves = [move for move in moves_by_hand(drawing) if move[0] in words]
            made = {plain_drawing(done(drawing, move)).text for move in moves}
            nearby[text] = {other for other in made if other in texts}
        found = {}
        for text in texts:
            steps = {text: 0}
            left = [text]
            for one in left:
                for other in sorted(nearby[one]):
                    if other not in steps:
                        steps[other] = steps[one] + 1
                        left.append(other)
            found.update({(text, other): steps.get(other) for other in texts})
        return found

    def assert_steps(self, action, words):
        for number in (1, 2, 3):
            told = self.steps_by_hand(words, number)
            pairs = sorted(told)[::1 if number < 3 else 7]
            for one, other in pairs:
                self.assertEqual(action(Drawing.read(one), Drawing.read(other), number), told[(one, other)], (one, other, number))

    def test_fewest_moves(self):
        self.assert_steps(fewest_moves, ("loop", "no loop", "pair", "no pair", "three"))

    def test_without_loops(self):
        self.assert_steps(without_loops, ("pair", "no pair", "three"))

    def test_too_many_letters(self):
        two, four = Drawing("aabb", "++", 1), Drawing("aabbccdd", "++++", 1)
        for action in (fewest_moves, without_loops):
            self.assertEqual([action(two, CURL, 1), action(CURL, two, 1), action(two, two, 1)], [None] * 3)
            self.assertEqual([action(four, four, 3), action(four, CURL, 3), action(CURL, four, 3)], [None] * 3)
            self.assertEqual([action(two, two, 2), action(CURL, CURL, 1), action(CURL, walked_back(CURL), 1)], [0] * 3)

    def test_least_moves(self):
        found = few_drawings(2) + few_drawings(3)[::5]
        for one, other in itertools.product(found, found[::3]):
            if abs(turns(one)) != abs(turns(other)):
                self.assertIsNone(least_moves_of(one, other))
            else:
                apart = [abs(mine - its) for mine, its in zip(five(one), five(other))]
                self.assertEqual([apart[2] % 2, apart[3] % 2], [0, 0])
                self.assertEqual(least_moves_of(one, other), (apart[2] // 2, apart[3] // 2, apart[4]))

    def test_least_moves_are_needed(self):
        plain = [Drawing.read(text) for text in sorted({plain_drawing(each).text for each in few_drawings(3)})]
        for one, other in itertools.product(plain, plain[::4]):
            many = without_loops(one, other, 3)
            if many is not None:
                self.assertGreaterEqual(many, sum(least_moves_of(one, other)))
            elif least_moves_of(one, other) is None:
                self.assertNotEqual(abs(turns(one)), abs(turns(other)))


class Pictures(unittest.TestCase):
    """Lines that are really moved: one corner of a polygon goes elsewhere, and a move must tell of what happens."""

    def drawn(self, picture, corner, goal, part):
        corners = list(picture.corners)
        start = corners[corner]
        corners[corner] = (start[0] + part * (goal[0] - start[0]), start[1] + part * (goal[1] - start[1]))
        moved = Picture(corners)
        return Drawing(moved.row, moved.sides(), moved.outside()) if moved.is_simple_enough() else None

    def follow(self, draw, low, high, words):
        """Halve the way until each part of it is one move, or none."""
        one, other = draw(low), draw(high)
        if one is None or other is None or are_same(one, other):
            return
        if abs(one.size - other.size) <= 2:
            for move in all_moves(one):
                if are_same(done(one, move), other):
                    words.append(move[0])
                    return
        if high - low < Fraction(1, 2 ** 26):
            # Two neighbouring stretches that fold over others make a loop and move it across these at once.
            self.assertEqual(abs(one.size - other.size), 1, (one.text, other.text))
            return
        middle = (low + high) / 2 + (high - low) / 97
        self.follow(draw, low, middle, words)
        self.follow(draw, middle, high, words)

    def test_corners_moved(self):
        numbers = Numbers(5)
        words = []
        for picture in pictures(75):
            if 4 < len(picture.row) <= 12:
                goal = (numbers.below(60), numbers.below(60))
                self.follow(lambda part: self.drawn(picture, 0, goal, part), Fraction(0), Fraction(1), words)
        self.assertEqual(set(words), {"loop", "no loop", "pair", "no pair", "three"})


class Edges(unittest.TestCase):
    def test_one_letter(self):
        # No letter may go from a drawing of one, so that nothing can be taken out.
        for text in ("aa + -1", "aa + -2", "aa + 1", "aa - -2", "aa - -1", "aa - 0"):
            drawing = Drawing.read(text)
            self.assertEqual([outs(drawing), loosened(drawing), len(by_threes(drawing))], [(), (), 1])
            self.assertEqual([is_move(drawing, ("no loop", "a")), is_move(drawing, ("no pair", "a", "a"))], [False, False])
            self.assertEqual(len([move for move in ins(drawing) if move[0] == "loop"]), 4)

    def test_two_letters(self):
        # Letters of a pair are two, so that none would be left.
        for drawing in drawings_with(2):
            self.assertEqual([move for move in outs(drawing) if move[0] == "no pair"], [])
            self.assertIs(is_move(drawing, ("no pair", "a", "b")), False)

    def test_eight_nine_and_ten_letters(self):
        for size, words in ((8, {"loop", "pair"}), (9, {"loop"}), (10, set())):
            drawing = Drawing(TEN[:2 * size], "+" * size, 1)
            found = ins(drawing)
            self.assertEqual({move[0] for move in found}, words)
            self.assertEqual(is_move(drawing, ("loop", 0, "l")), size < 10)
            self.assertEqual(is_move(drawing, ("pair", 1, 1, 0)), size < 9)
        self.assertEqual(done(Drawing(TEN[:18], "+" * 9, 1), ("loop", 17, "r")).text, TEN + " ++++++++++ 1")
        self.assertEqual(done(Drawing(TEN[:16], "+" * 8, 1), ("pair", 15, 15, 1)).row, TEN[:16] + "ijji")

    def test_first_and_last_edge(self):
        self.assertEqual([done(THREE, ("loop", 0, "l")).row, done(THREE, ("loop", 5, "r")).row], ["addbcabc", "abcabcdd"])
        self.assertEqual([is_move(THREE, ("loop", -1, "l")), is_move(THREE, ("loop", 6, "l"))], [False, False])
        rolled = Drawing("abba", "+-", -2)
        self.assertEqual([outs(rolled), done(rolled, ("no loop", "a")).text], [(("no loop", "a"), ("no loop", "b")), "bb - -1"])

    def test_loop_that_is_the_outside_stays(self):
        for drawing in few_drawings(3):
            if len(drawing.outside) == 1:
                letter = drawing.row[edge_of(drawing.outside[0])]
                self.assertIs(is_move(drawing, ("no loop", letter)), False)
                for region in drawing.regions:
                    if region != drawing.outside:
                        self.assertEqual(is_move(turned_out(drawing, region), ("no loop", letter)), drawing.size > 1)

    def test_new_letters_are_the_first_ones(self):
        drawing = Drawing("bbdd", "+-", 0)
        self.assertEqual(done(drawing, ("loop", 1, "l")).row, "bbaadd")
        one = drawing.regions[0][0]
        self.assertEqual(set(done(drawing, ("pair", one, one, 0)).row), set("abcd"))

    def test_mirrors(self):
        for drawing in few_drawings(2):
            for edge in range(len(drawing.row)):
                other = mirror(done(drawing, ("loop", edge, "l")))
                self.assertTrue(other == done(mirror(drawing), ("loop", edge, "r")))

    def test_by_name(self):
        move = ("loop", 0, "l")
        self.assertEqual([is_move(value=move, drawing=CURL), done(move=move, drawing=CURL).text], [True, "abba +- -3"])
        self.assertEqual([changes_of(move=move, drawing=CURL), outs(drawing=CURL), ins(drawing=CURL)[0]], [(1, 1, -2, -3, 1), (), move])
        self.assertEqual([led(moves=(move,), drawing=CURL).row, back(move=move, drawing=CURL), loosened(drawing=CURL)], ["abba", ("no loop", "b"), ()])
        self.assertEqual([len(by_threes(drawing=CURL)), fewest_moves(number=3, other=THREE, one=CURL)], [1, 1])
        self.assertEqual([without_loops(number=3, other=THREE, one=CURL), least_moves_of(other=THREE, one=CURL)], [1, (1, 0, 0)])
