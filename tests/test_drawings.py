"""What [11] and [12] and the interface say of drawings, gone through for all drawings with few letters."""

import itertools
import unittest

from selfcrossed.drawings import (
    Drawing, are_same, begun_at, count_drawings, drawings_of, is_own_mirror, mirror, plain_drawing, turned_out,
    walked_back,
)
from selfcrossed.flat import flat_sides, regions
from selfcrossed.rows import backwards, begun, is_same, letters, lines_of, plain
from tests.few import (
    OTHER_LETTERS, drawings_by_regions, drawings_with, few_drawings, few_rows, flat_choices, regions_by_corners, renamed,
    rows_with, with_letters,
)
from tests.kinds import EqualToAll, LikeDrawing, Plain, Touchy, no_strings_or_integers, some_strings
from tests.pictures import pictures

TEN = "aabbccddeeffgghhiijj"


def begun_by_hand(row, sides, outside, place):
    """The row, the sides and the outside's elements when one begins at the place, as [12] tells."""
    size = len(row)
    new_sides = ""
    for letter, side in zip(sorted(set(row)), sides):
        j, k = [at for at, sign in enumerate(row) if sign == letter]
        new_sides += {"+": "-", "-": "+"}[side] if j < place <= k else side
    edges = {edge: (edge - place) % size for edge in range(size)}
    return row[place:] + row[:place], new_sides, [edges[e] if e >= 0 else -1 - edges[-1 - e] for e in outside]


def back_by_hand(row, sides, outside):
    """The row, the sides and the outside's elements when one walks backwards, as [12] tells."""
    size = len(row)
    edges = {edge: 2 * (size // 2) - 2 - edge for edge in range(size - 1)}
    edges[size - 1] = size - 1
    new_sides = "".join(["-" if side == "+" else "+" for side in sides])
    return row[::-1], new_sides, [-1 - edges[e] if e >= 0 else edges[-1 - e] for e in outside]


def named_by_hand(row, sides, outside, others):
    """The row with these letters for its own, ascending, the sides going with them."""
    own = sorted(set(row))
    side_of = {other: sides[index] for index, other in enumerate(others)}
    new_sides = "".join([side_of[other] for other in sorted(others)])
    return "".join([others[own.index(sign)] for sign in row]), new_sides, outside


def all_same(drawing):
    """All triples of drawings that are the same and have the first letters of the alphabet."""
    told = (drawing.row, drawing.sides, drawing.outside)
    found = set()
    for place in range(len(drawing.row)):
        one = begun_by_hand(*told, place)
        for way in (one, back_by_hand(*one)):
            for others in itertools.permutations("abcdefghij"[:drawing.size]):
                row, sides, outside = named_by_hand(*way, others)
                found.add((row, sides, min(outside)))
    return found


def triple(drawing):
    return drawing.row, drawing.sides, drawing.outside[0]


def drawing_of(picture):
    return Drawing(picture.row, picture.sides(), picture.outside())


class Made(unittest.TestCase):
    def test_properties(self):
        for row in few_rows(4):
            for sides in flat_choices(row):
                for region in regions_by_corners(row, sides):
                    for element in region:
                        drawing = Drawing(row, sides, element)
                        self.assertEqual([drawing.row, drawing.sides, drawing.outside], [row, sides, region])
                        self.assertEqual([drawing.regions, drawing.size], [regions(row, sides), len(row) // 2])
                        self.assertEqual(drawing.text, row + " " + sides + " " + str(min(region)))

    def test_properties_cannot_be_set(self):
        drawing = Drawing("aa", "+", 0)
        for name in ("row", "sides", "outside", "regions", "size", "text"):
            with self.assertRaises(AttributeError):
                setattr(drawing, name, getattr(drawing, name))

    def test_pictures(self):
        for picture in pictures(300):
            drawing = drawing_of(picture)
            # Just the outside and what is as far out has no line round it.
            self.assertTrue(all(picture.times_round(picture.beside(element)) == 0 for element in drawing.outside))


class Equality(unittest.TestCase):
    def test_equal_if_all_three_are(self):
        found = few_drawings(2)
        for one, other in itertools.product(found, found):
            told = (one.row, one.sides, one.outside) == (other.row, other.sides, other.outside)
            self.assertIs(one == other, told)
            self.assertIs(one != other, not told)

    def test_another_element_of_the_outside(self):
        for one in few_drawings(3):
            for element in one.outside:
                self.assertTrue(one == Drawing(one.row, one.sides, element))
                self.assertFalse(one != Drawing(one.row, one.sides, element))

    def test_never_equals_another_class(self):
        drawing = Drawing("aa", "+", -1)
        for value in no_strings_or_integers() + some_strings() + ["aa + -1", ("aa", "+", -1), LikeDrawing(), EqualToAll(), Plain(), Touchy()]:
            self.assertIs(drawing == value, False)
            self.assertIs(drawing != value, True)
        self.assertIs("aa + -1" == drawing, False)
        self.assertIs(None != drawing, True)

    def test_is_true(self):
        self.assertIs(bool(Drawing("aa", "+", 0)), True)


class Read(unittest.TestCase):
    def test_each_text(self):
        for drawing in few_drawings(4):
            self.assertTrue(Drawing.read(drawing.text) == drawing)
            self.assertEqual(Drawing.read(text=drawing.text).text, drawing.text)

    def test_from_an_object(self):
        drawing = Drawing("aa", "+", 0)
        self.assertEqual(drawing.read("bb - 0").text, "bb - 0")


class TheSame(unittest.TestCase):
    def assert_made(self, drawing, told):
        row, sides, outside = told
        self.assertEqual([drawing.row, drawing.sides, sorted(drawing.outside)], [row, sides, sorted(outside)])

    def test_begun_and_back(self):
        for drawing in few_drawings(3) + few_drawings(4)[::7]:
            told = (drawing.row, drawing.sides, drawing.outside)
            for place in range(len(drawing.row)):
                self.assert_made(begun_at(drawing, place), begun_by_hand(*told, place))
                self.assertEqual(begun_at(drawing, place).row, begun(drawing.row, place))
            self.assert_made(walked_back(drawing), back_by_hand(*told))
            self.assertEqual(walked_back(drawing).row, backwards(drawing.row))

    def test_begun_again(self):
        for drawing in few_drawings(3):
            size = len(drawing.row)
            self.assertTrue(begun_at(drawing, 0) == drawing)
            for j in range(size):
                for k in range(size):
                    self.assertTrue(begun_at(begun_at(drawing, j), k) == begun_at(drawing, (j + k) % size))

    def test_back_again(self):
        for drawing in few_drawings(4):
            self.assertTrue(walked_back(walked_back(drawing)) == drawing)
            self.assertTrue(mirror(mirror(drawing)) == drawing)
            self.assertTrue(mirror(walked_back(drawing)) == walked_back(mirror(drawing)))

    def test_mirror(self):
        for drawing in few_drawings(4):
            told = mirror(drawing)
            self.assertEqual(told.row, drawing.row)
            self.assertTrue(all(one != other for one, other in zip(told.sides, drawing.sides)))
            self.assertEqual(sorted(told.outside), sorted([-1 - element for element in drawing.outside]))

    def test_turned_out(self):
        for drawing in few_drawings(4):
            for region in drawing.regions:
                told = turned_out(drawing, region)
                self.assertEqual([told.row, told.sides, told.outside], [drawing.row, drawing.sides, region])
                self.assertTrue(turned_out(told, drawing.outside) == drawing)

    def test_pictures(self):
        for picture in pictures(200):
            drawing = drawing_of(picture)
            self.assertTrue(drawing_of(picture.mirrored()) == mirror(drawing))
            back = walked_back(drawing)
            other = drawing_of(picture.walked_back())
            self.assertTrue(are_same(other, drawing))
            self.assertTrue(any(picture_letters(begun_at(back, place)) == other for place in range(len(picture.row))))
            for corner in range(len(picture.corners)):
                other = drawing_of(picture.begun(corner))
                place = len([where for where, _ in picture.passings if where < (corner, 0)]) % len(picture.row)
                self.assertTrue(picture_letters(begun_at(drawing, place)) == other)

    def test_same(self):
        for drawing in few_drawings(3) + few_drawings(4)[::17]:
            plain_one = plain_drawing(drawing)
            for place in range(len(drawing.row)):
                for other in (begun_at(drawing, place), walked_back(begun_at(drawing, place))):
                    other = with_letters(other, OTHER_LETTERS[other.size])
                    self.assertIs(are_same(drawing, other), True)
                    self.assertTrue(plain_drawing(other) == plain_one)

    def test_plain_is_the_least(self):
        for drawing in few_drawings(3) + few_drawings(4)[::17]:
            self.assertEqual(triple(plain_drawing(drawing)), min(all_same(drawing)))
            self.assertEqual(plain_drawing(drawing).row, plain(drawing.row))

    def test_unlike(self):
        found = drawings_with(1) + drawings_with(2) + drawings_with(3)
        lots = [frozenset(all_same(drawing)) for drawing in found]
        for one, lot in zip(found[::3], lots[::3]):
            for other, other_lot in zip(found, lots):
                self.assertIs(are_same(one, other), lot == other_lot)

    def test_own_mirrors(self):
        for drawing in few_drawings(3) + few_drawings(4)[::11]:
            self.assertIs(is_own_mirror(drawing), triple(plain_drawing(mirror(drawing))) in all_same(drawing))
            self.assertIs(is_own_mirror(drawing), is_own_mirror(mirror(drawing)))


def picture_letters(drawing):
    """The drawing with letters that come first in the order of the alphabet, as pictures have them."""
    order = sorted(set(drawing.row), key=drawing.row.index)
    side_of = dict(zip(letters(drawing.row), drawing.sides))
    row = "".join(["abcdefghij"[order.index(letter)] for letter in drawing.row])
    return Drawing(row, "".join([side_of[letter] for letter in order]), drawing.outside[0])


class DrawingsOf(unittest.TestCase):
    def test_rows_with_few_letters(self):
        for row in few_rows(4):
            if flat_choices(row):
                told = {plain_drawing(drawing).text for drawing in drawings_by_regions(row)}
                self.assertEqual([drawing.text for drawing in drawings_of(row)], sorted(told))

    def test_they_are_plain_and_unlike(self):
        for row in few_rows(4):
            if flat_choices(row):
                found = drawings_of(row)
                for drawing in found:
                    self.assertTrue(plain_drawing(drawing) == drawing)
                    self.assertTrue(is_same(drawing.row, row))
                for one, other in zip(found, found[1:]):
                    self.assertIs(are_same(one, other), False)

    def test_the_same_line_has_the_same_drawings(self):
        for row in rows_with(4):
            if flat_choices(row):
                told = [drawing.text for drawing in drawings_of(row)]
                self.assertEqual([drawing.text for drawing in drawings_of(renamed(row))], told)
                self.assertEqual([drawing.text for drawing in drawings_of(begun(row, 3))], told)

    def test_pictures(self):
        for picture in pictures(60):
            if len(picture.row) <= 12:
                self.assertIn(plain_drawing(drawing_of(picture)).text, [each.text for each in drawings_of(picture.row)])

    def test_counts(self):
        self.assertEqual([count_drawings(number) for number in (1, 2, 3)], [2, 5, 21])
        for number in (1, 2, 3):
            told = {plain_drawing(drawing).text for drawing in drawings_with(number)}
            self.assertEqual(count_drawings(number), len(told))

    def test_unlike_drawings_with_four_and_five_letters(self):
        # The numbers of closed lines with so many crossings on a sheet that is not turned over are known.
        for number, many in ((4, 102), (5, 639)):
            lines = [line for line in lines_of(number) if flat_sides(line)]
            self.assertEqual(sum([len(drawings_of(line)) for line in lines]), many)


class Edges(unittest.TestCase):
    def test_one_letter(self):
        drawing = Drawing("jj", "-", 1)
        self.assertEqual([drawing.outside, drawing.size, drawing.text, drawing.regions], [(-1, 1), 1, "jj - -1", ((-2,), (-1, 1), (0,))])
        self.assertEqual([begun_at(drawing, 1).text, walked_back(drawing).text, mirror(drawing).text], ["jj + -2", "jj + -2", "jj + -2"])
        self.assertEqual([drawing.text for drawing in drawings_of("jj")], ["aa + -1", "aa + -2"])

    def test_first_and_last_element(self):
        for size, row in ((1, "aa"), (10, TEN)):
            sides = "+" * size
            for element in (-2 * size, 2 * size - 1, 0, -1):
                self.assertIn(element, Drawing(row, sides, element).outside)

    def test_ten_letters(self):
        drawing = Drawing(TEN, "+" * 10, 1)
        self.assertEqual(drawing.text, TEN + " ++++++++++ 1")
        self.assertTrue(Drawing.read(drawing.text) == drawing)
        self.assertTrue(begun_at(begun_at(drawing, 19), 1) == drawing)
        self.assertTrue(are_same(walked_back(begun_at(drawing, 7)), drawing))
        self.assertEqual([drawing.size, len(drawing.regions), is_own_mirror(drawing)], [10, 12, True])
        self.assertEqual(plain_drawing(walked_back(drawing)).row, TEN)

    def test_drawings_of_six_letters(self):
        found = drawings_of("aabbccddeeff")
        self.assertEqual([drawing.text for drawing in found], sorted([drawing.text for drawing in found]))
        self.assertIn("aabbccddeeff ++++++ 1", [drawing.text for drawing in found])

    def test_by_name(self):
        drawing = Drawing(outside=-1, sides="+", row="aa")
        self.assertEqual([begun_at(place=1, drawing=drawing).text, walked_back(drawing=drawing).text], ["aa - -2", "aa - 0"])
        self.assertEqual([mirror(drawing=drawing).text, turned_out(region=(1,), drawing=drawing).text], ["aa - 0", "aa + 1"])
        self.assertEqual([plain_drawing(drawing=drawing).text, are_same(other=drawing, one=drawing)], ["aa + -1", True])
        self.assertEqual([is_own_mirror(drawing=drawing), len(drawings_of(row="aa")), count_drawings(number=1)], [True, 2, 2])

    def test_nothing_is_changed(self):
        drawing = Drawing("aabb", "+-", 0)
        told = (drawing.text, drawing.regions, drawing.outside)
        for action in (walked_back, mirror, plain_drawing, is_own_mirror):
            action(drawing)
        begun_at(drawing, 2)
        turned_out(drawing, drawing.regions[-1])
        are_same(drawing, drawing)
        self.assertEqual((drawing.text, drawing.regions, drawing.outside), told)
