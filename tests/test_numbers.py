"""What [13], [14] and [15] and the interface say of numbers, gone through for all drawings with few letters."""

import unittest
from fractions import Fraction

from selfcrossed.drawings import Drawing, begun_at, mirror, turned_out, walked_back
from selfcrossed.numbers import (
    area, least_same_way, letter_numbers, most_turns, on_a_ball, opposite_way, outsides_with, region_numbers, rings,
    same_way, signs, standard, three_ways, turns, turns_spread, twice_mean,
)
from tests.few import (
    OTHER_LETTERS, drawings_by_regions, drawings_with, few_drawings, few_rows, flat_choices, with_letters,
)
from tests.pictures import pictures

TEN = "aabbccddeeffgghhiijj"


def some_drawings():
    """All drawings with up to three letters and some with four, with letters in several orders."""
    return few_drawings(3) + few_drawings(4)[::7]


def number_of_element(drawing):
    """For each element the number of the region to its left."""
    found = {}
    for region, number in zip(drawing.regions, region_numbers(drawing)):
        found.update({element: number for element in region})
    return found


def corners(drawing):
    """For each letter the numbers of the regions at its four corners, ascending."""
    found = {letter: [] for letter in sorted(set(drawing.row))}
    for region, number in zip(drawing.regions, region_numbers(drawing)):
        for element in region:
            place = (element + 1) % len(drawing.row) if element >= 0 else -1 - element
            found[drawing.row[place]].append(number)
    return {letter: sorted(numbers) for letter, numbers in found.items()}


def signs_by_hand(drawing, edge):
    """The signs as [13] tells them, for who comes by behind the edge."""
    size = len(drawing.row)
    found = []
    for letter, side in zip(sorted(set(drawing.row)), drawing.sides):
        passings = [place for place in [(edge + 1 + step) % size for step in range(size)] if drawing.row[place] == letter]
        # The sides are told for who begins at the place 0; who passes the places the other way round sees the opposite.
        from_right = (side == "+") == (passings[0] < passings[1])
        found.append(-1 if from_right else 1)
    return tuple(found)


class Regions(unittest.TestCase):
    def test_numbers_of_regions(self):
        for drawing in few_drawings(4):
            told = number_of_element(drawing)
            self.assertEqual(told[drawing.outside[0]], 0)
            for edge in range(len(drawing.row)):
                self.assertEqual(told[edge], told[-1 - edge] + 1)

    def test_order_is_that_of_the_regions(self):
        for drawing in few_drawings(3):
            self.assertEqual(len(region_numbers(drawing)), len(drawing.regions))
            self.assertEqual(region_numbers(drawing)[drawing.regions.index(drawing.outside)], 0)

    def test_pictures(self):
        for picture in pictures(250):
            drawing = Drawing(picture.row, picture.sides(), picture.outside())
            for region, number in zip(drawing.regions, region_numbers(drawing)):
                for element in region:
                    self.assertEqual(picture.times_round(picture.beside(element)), number)
            self.assertEqual(turns(drawing), picture.turns())


class Letters(unittest.TestCase):
    def test_numbers_of_letters(self):
        for drawing in some_drawings():
            told = letter_numbers(drawing)
            self.assertEqual(len(told), drawing.size)
            for number, around in zip(told, corners(drawing).values()):
                self.assertEqual(around, [number - 1, number, number, number + 1])

    def test_signs(self):
        for drawing in some_drawings():
            for edge in range(len(drawing.row)):
                self.assertEqual(signs(drawing, edge), signs_by_hand(drawing, edge))

    def test_signs_from_the_last_edge_are_the_sides(self):
        for drawing in some_drawings():
            told = tuple([-1 if side == "+" else 1 for side in drawing.sides])
            self.assertEqual(signs(drawing, len(drawing.row) - 1), told)

    def test_twice_mean(self):
        for drawing in some_drawings():
            told = number_of_element(drawing)
            for edge in range(len(drawing.row)):
                self.assertEqual(twice_mean(drawing, edge), told[edge] + told[-1 - edge])


class Three(unittest.TestCase):
    def test_turns_from_whichever_edge(self):
        for drawing in some_drawings():
            for edge in range(len(drawing.row)):
                self.assertEqual(turns(drawing), twice_mean(drawing, edge) + sum(signs(drawing, edge)))

    def test_three_ways_from_whichever_edge(self):
        for drawing in some_drawings():
            for edge in range(len(drawing.row)):
                mean = Fraction(twice_mean(drawing, edge), 2)
                of_letters = sum([sign * number for sign, number in zip(signs(drawing, edge), letter_numbers(drawing))])
                self.assertEqual(three_ways(drawing), mean ** 2 - Fraction(1, 4) + of_letters)
            self.assertIs(type(three_ways(drawing)), int)

    def test_same_way_and_opposite_way(self):
        for drawing in some_drawings():
            regions = sum([number ** 2 for number in region_numbers(drawing)])
            letters = sum([number ** 2 for number in letter_numbers(drawing)])
            self.assertEqual(same_way(drawing), 1 + drawing.size - regions + letters)
            self.assertEqual(opposite_way(drawing), same_way(drawing) - drawing.size)

    def test_on_a_ball(self):
        for drawing in some_drawings():
            told = {on_a_ball(turned_out(drawing, region)) for region in drawing.regions}
            self.assertEqual(told, {same_way(drawing) + 2 * three_ways(drawing)})

    def test_wherever_one_begins(self):
        for drawing in some_drawings():
            told = (turns(drawing), same_way(drawing), opposite_way(drawing), three_ways(drawing))
            for place in range(len(drawing.row)):
                other = begun_at(drawing, place)
                self.assertEqual((turns(other), same_way(other), opposite_way(other), three_ways(other)), told)
            for other in (walked_back(drawing), mirror(drawing)):
                self.assertEqual((-turns(other), same_way(other), opposite_way(other), three_ways(other)), told)

    def test_standard_lines(self):
        # What is known of lines that turn round once with curls that lie inside, one beside the other.
        for number in range(1, 11):
            drawing = Drawing(TEN[:2 * number], "+" * number, 1)
            self.assertEqual(turns(drawing), -1 - number)
            self.assertEqual([same_way(drawing), opposite_way(drawing), three_ways(drawing)], [-2 * number, -3 * number, number])
        eight = Drawing("aa", "+", 0)
        self.assertEqual([same_way(eight), opposite_way(eight), three_ways(eight), turns(eight)], [0, -1, 0, 0])


class Area(unittest.TestCase):
    def test_sums(self):
        for drawing in few_drawings(3):
            sizes = tuple([10 ** 20 - 7 * index for index in range(len(drawing.regions))])
            told = sum([number * size for number, size in zip(region_numbers(drawing), sizes)])
            self.assertEqual(area(drawing, sizes), told)

    def test_the_outside_is_not_used(self):
        for drawing in few_drawings(2):
            index = drawing.regions.index(drawing.outside)
            for size in (0, 1, 10 ** 20):
                sizes = [3] * len(drawing.regions)
                sizes[index] = size
                self.assertEqual(area(drawing, tuple(sizes)), 3 * sum(region_numbers(drawing)))

    def test_ends(self):
        curl = Drawing("aa", "+", -1)
        self.assertEqual([area(curl, (0, 0, 0)), area(curl, (10 ** 20,) * 3), area(curl, (0, 5, 1))], [0, 3 * 10 ** 20, 2])


class Rings(unittest.TestCase):
    def test_each_edge_lies_on_one(self):
        for drawing in few_drawings(4):
            found = rings(drawing)
            self.assertEqual(sorted([edge for ring in found for edge in ring]), list(range(len(drawing.row))))
            self.assertEqual([ring[0] for ring in found], [min(ring) for ring in found])
            self.assertEqual(list(found), sorted(found))

    def test_each_step_turns_off(self):
        for drawing in few_drawings(4):
            row = drawing.row
            for ring in rings(drawing):
                for edge, following in zip(ring, ring[1:] + ring[:1]):
                    place = (edge + 1) % len(row)
                    self.assertNotEqual(following, place)
                    self.assertEqual(row[following], row[place])

    def test_two_more_or_less(self):
        # Each letter joins two rings or parts one.
        for drawing in few_drawings(4):
            self.assertEqual((len(rings(drawing)) - drawing.size) % 2, 1)


class OfRows(unittest.TestCase):
    def test_over_all_drawings(self):
        for row in few_rows(4):
            if flat_choices(row):
                found = drawings_by_regions(row)
                told = [turns(drawing) for drawing in found]
                self.assertEqual(most_turns(row), max(told))
                self.assertEqual(least_same_way(row), min([same_way(drawing) for drawing in found]))
                self.assertEqual(turns_spread(row), tuple([(number, told.count(number)) for number in sorted(set(told))]))

    def test_outsides_with(self):
        for drawing in some_drawings():
            for number in range(-6, 7):
                told = [region for region in drawing.regions if turns(turned_out(drawing, region)) == number]
                self.assertEqual(outsides_with(drawing, number), tuple(told))

    def test_outsides_with_ends(self):
        drawing = Drawing("aa", "+", -1)
        self.assertEqual([outsides_with(drawing, number) for number in (-100, 100, 1, 0, -2)], [(), (), (), ((-2, 0),), ((1,),)])


class Standard(unittest.TestCase):
    def test_first_text(self):
        for number in range(-5, 6):
            size = {0: 1, 1: 2}.get(abs(number), abs(number) - 1)
            told = [drawing.text for drawing in drawings_by_regions(TEN[:2 * size]) if turns(drawing) == number]
            self.assertEqual(standard(number).text, min(told))

    def test_turns(self):
        for number in range(-9, 10):
            drawing = standard(number)
            self.assertEqual(turns(drawing), number)
            self.assertEqual(drawing.row, TEN[:len(drawing.row)])
        self.assertEqual([standard(9).text, standard(-9).size, standard(1).text, standard(-1).text], ["aabbccddeeffgghh +------- -1", 8, "aabb ++ -1", "aabb ++ -4"])

    def test_no_fewer_letters_do(self):
        for number in range(-4, 5):
            for size in range(1, standard(number).size):
                self.assertNotIn(number, [turns(drawing) for drawing in drawings_with(size)])


class Edges(unittest.TestCase):
    def test_one_letter(self):
        drawing = Drawing("jj", "-", 0)
        self.assertEqual([region_numbers(drawing), letter_numbers(drawing), signs(drawing, 0), signs(drawing, 1)], [(-2, -1, 0), (-1,), (-1,), (1,)])
        self.assertEqual([twice_mean(drawing, 0), twice_mean(drawing, 1), turns(drawing), rings(drawing)], [-1, -3, -2, ((0,), (1,))])
        self.assertEqual([same_way(drawing), opposite_way(drawing), three_ways(drawing), on_a_ball(drawing)], [-2, -3, 1, 0])
        self.assertEqual([most_turns("jj"), least_same_way("jj"), turns_spread("jj")], [2, -2, ((-2, 2), (0, 2), (2, 2))])

    def test_ten_letters(self):
        drawing = Drawing(TEN, "+" * 10, 1)
        self.assertEqual([turns(drawing), same_way(drawing), opposite_way(drawing), three_ways(drawing)], [-11, -20, -30, 10])
        self.assertEqual([len(region_numbers(drawing)), letter_numbers(drawing), signs(drawing, 19)], [12, (-1,) * 10, (-1,) * 10])
        self.assertEqual([twice_mean(drawing, 0), twice_mean(drawing, 19), len(rings(drawing))], [-3, -1, 11])
        self.assertEqual(area(drawing, (1,) * 12), sum(region_numbers(drawing)))
        self.assertEqual(outsides_with(drawing, -11), (drawing.outside,))

    def test_eight_letters(self):
        row = "aabbccddeeffgghh"
        told = turns_spread(row)
        self.assertEqual([most_turns(row), told[0], told[-1], sum([many for _, many in told])], [9, (-9, 9), (9, 9), 2560])
        self.assertEqual(least_same_way(row), min([same_way(drawing) for drawing in drawings_by_regions(row)]))

    def test_by_name(self):
        curl = Drawing("aa", "+", -1)
        self.assertEqual([region_numbers(drawing=curl), letter_numbers(drawing=curl), signs(edge=0, drawing=curl)], [(1, 0, 2), (1,), (1,)])
        self.assertEqual([twice_mean(edge=1, drawing=curl), turns(drawing=curl), same_way(drawing=curl)], [3, 2, -2])
        self.assertEqual([opposite_way(drawing=curl), three_ways(drawing=curl), on_a_ball(drawing=curl)], [-3, 1, 0])
        self.assertEqual([area(sizes=(1, 5, 2), drawing=curl), rings(drawing=curl), most_turns(row="aa")], [5, ((0,), (1,)), 2])
        self.assertEqual([least_same_way(row="aa"), len(turns_spread(row="aa")), outsides_with(number=2, drawing=curl)], [-2, 3, ((-1,),)])
        self.assertEqual(standard(number=0).text, "aa + -2")

    def test_other_letters(self):
        for drawing in drawings_with(3)[::5]:
            other = with_letters(drawing, OTHER_LETTERS[3])
            self.assertEqual([turns(other), region_numbers(other), three_ways(other)], [turns(drawing), region_numbers(drawing), three_ways(drawing)])
            # The letters' numbers go with the letters.
            order = sorted(range(3), key=lambda index: OTHER_LETTERS[3][index])
            self.assertEqual(letter_numbers(other), tuple([letter_numbers(drawing)[index] for index in order]))
