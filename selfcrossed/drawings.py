"""Drawings: rows with sides without handles and an outside, and when two of them are the same.

What a drawing is made of is passed round here as a triple of row, sides and outside, the outside with all its elements
in any order.
"""

from selfcrossed.errors import (
    InvalidNumber, InvalidOutside, InvalidRow, InvalidSides, InvalidText, NotADrawing, NotFlat,
)
from selfcrossed.flat import flat_sides_of, is_flat, is_sides, regions_of
from selfcrossed.integers import is_from_to, is_integer
from selfcrossed.rows import (
    begun_from, check_place, check_row, check_size, first_named, is_row, letters_of, lines_of, ways_round,
)
from selfcrossed.walks import edge_of, gone_as

MOST_DRAWN = 6
MOST_COUNTED = 3
TURNED_OVER = {"+": "-", "-": "+"}


class Drawing:
    """A row with sides that have no handles, and the region that is the outside."""

    def __init__(self, row, sides, outside):
        if not is_row(row):
            raise InvalidRow(row)
        if not is_sides(row, sides):
            raise InvalidSides(sides)
        if not is_from_to(outside, -len(row), len(row) - 1):
            raise InvalidOutside(outside)
        found = regions_of(row, sides)
        if not are_without_handles(row, found):
            raise NotFlat()
        self._row = row
        self._sides = sides
        self._regions = tuple(found)
        self._outer = region_with(found, outside)
        self._text = text_of((row, sides, self._outer))

    @staticmethod
    def read(text):
        """Give the drawing with this text."""
        drawing = drawing_in(text)
        if drawing is None:
            raise InvalidText(text)
        return drawing

    @property
    def row(self):
        """The row."""
        return self._row

    @property
    def sides(self):
        """The sides of the letters, ascending."""
        return self._sides

    @property
    def outside(self):
        """The region that is the outside."""
        return self._outer

    @property
    def regions(self):
        """The ascending tuple of the regions."""
        return self._regions

    @property
    def size(self):
        """The number of letters."""
        return len(self._sides)

    @property
    def text(self):
        """The row, the sides and the least element of the outside, with single spaces."""
        return self._text

    def __eq__(self, other):
        return isinstance(other, Drawing) and self._text == other._text


def begun_at(drawing, place):
    """Give the drawing begun at this place."""
    check_drawing(drawing)
    check_place(drawing.row, place)
    return drawn(begun_told(told_of(drawing), place))


def walked_back(drawing):
    """Give the drawing walked backwards."""
    check_drawing(drawing)
    return drawn(back_told(told_of(drawing)))


def mirror(drawing):
    """Give the mirror of the drawing."""
    check_drawing(drawing)
    return drawn(mirror_told(told_of(drawing)))


def turned_out(drawing, region):
    """Give the drawing with this region as the outside."""
    check_drawing(drawing)
    check_region(drawing, region)
    return Drawing(drawing.row, drawing.sides, region[0])


def plain_drawing(drawing):
    """Give the plain drawing of the drawing."""
    check_drawing(drawing)
    return plain_of_drawing(drawing)


def are_same(one, other):
    """Tell whether both drawings are the same."""
    check_drawing(one)
    check_drawing(other)
    return are_same_drawings(one, other)


def is_own_mirror(drawing):
    """Tell whether the drawing is the same as its mirror."""
    check_drawing(drawing)
    return are_same_drawings(drawing, drawn(mirror_told(told_of(drawing))))


def drawings_of(row):
    """Give the plain drawings of all drawings of the row, ascending by their texts."""
    check_row(row)
    if not is_flat(row):
        raise NotFlat()
    check_size(row, MOST_DRAWN)
    return tuple(plain_drawings_of(row))


def count_drawings(number):
    """Count the unlike plain drawings with so many letters."""
    if not is_from_to(number, 1, MOST_COUNTED):
        raise InvalidNumber(number)
    # Drawings of unlike plain rows are unlike.
    return sum([len(plain_drawings_of(line)) for line in lines_of(number)])


def check_drawing(drawing):
    """Raise the error for what is no drawing."""
    if not isinstance(drawing, Drawing):
        raise NotADrawing(drawing)


def check_region(drawing, region):
    """Raise the error for what is none of the drawing's regions."""
    # What is in the tuple is asked first, as Python takes True for the edge 1.
    if not isinstance(region, tuple) or not all([is_integer(element) for element in region]):
        raise InvalidOutside(region)
    if region not in drawing.regions:
        raise InvalidOutside(region)


def are_without_handles(row, found):
    """Tell whether the row with sides has no handles, these being its regions."""
    return len(found) == len(row) // 2 + 2


def region_with(found, element):
    """Give the one of these regions that has this element."""
    return [region for region in found if element in region][0]


def text_of(told):
    """Write the text of a drawing."""
    row, sides, outside = told
    return f"{row} {sides} {min(outside)}"


def drawing_in(text):
    """Give the drawing with this text, None for any other value."""
    words = text.split(" ") if isinstance(text, str) else []
    if len(words) != 3 or not is_row(words[0]) or not is_sides(words[0], words[1]):
        return None
    found = regions_of(words[0], words[1])
    if are_without_handles(words[0], found):
        for region in found:
            if text_of((words[0], words[1], region)) == text:
                return Drawing(words[0], words[1], region[0])
    return None


def told_of(drawing):
    """Give the triple of what the drawing is made of."""
    return drawing.row, drawing.sides, drawing.outside


def drawn(told):
    """Give the drawing that is made of this."""
    row, sides, outside = told
    return Drawing(row, sides, outside[0])


def begun_told(told, place):
    """Begin what a drawing is made of at this place."""
    row, sides, outside = told
    ahead = row[:place]
    # A letter that is passed once ahead of the place has its earlier passing made the later one.
    begun_sides = [
        TURNED_OVER[side] if ahead.count(letter) == 1 else side for letter, side in zip(letters_of(row), sides)
    ]
    begun_outside = [gone_as((edge_of(each) - place) % len(row), each) for each in outside]
    return begun_from(row, place), "".join(begun_sides), tuple(begun_outside)


def back_told(told):
    """Walk what a drawing is made of backwards."""
    row, sides, outside = told
    back_outside = [gone_as((len(row) - 2 - edge_of(each)) % len(row), -1 - each) for each in outside]
    return row[::-1], turned_over(sides), tuple(back_outside)


def mirror_told(told):
    """Mirror what a drawing is made of."""
    row, sides, outside = told
    return row, turned_over(sides), tuple([-1 - each for each in outside])


def turned_over(sides):
    """Turn all sides over."""
    return "".join([TURNED_OVER[side] for side in sides])


def first_named_told(told):
    """Give what a drawing is made of other letters, so that they come first in the order of the alphabet."""
    row, sides, outside = told
    side_of = dict(zip(letters_of(row), sides))
    firsts = [letter for place, letter in enumerate(row) if letter not in row[:place]]
    return first_named(row), "".join([side_of[letter] for letter in firsts]), outside


def plain_told(drawing):
    """Give what the plain drawing is made of, the outside by its least element alone."""
    told = told_of(drawing)
    ways = ways_round(drawing.row)
    least = min(ways)
    found = []
    # For each place the way forwards from there is followed by the same way backwards.
    for index, way in enumerate(ways):
        if way == least:
            begun = begun_told(told, index // 2)
            row, sides, outside = first_named_told(back_told(begun) if index & 1 == 1 else begun)
            found.append((row, sides, min(outside)))
    return min(found)


def plain_of_drawing(drawing):
    """Give the plain drawing of what is known to be a drawing."""
    row, sides, element = plain_told(drawing)
    return Drawing(row, sides, element)


def are_same_drawings(one, other):
    """Tell whether both, known to be drawings, are the same."""
    return plain_told(one) == plain_told(other)


def all_drawings_of(row):
    """List the drawings of all flat sides of the row with each region as the outside."""
    return [
        Drawing(row, sides, region[0]) for sides in flat_sides_of(row) for region in regions_of(row, sides)
    ]


def plain_drawings_of(row):
    """List the unlike plain drawings of all drawings of the row, ascending by their texts."""
    found = {}
    for drawing in all_drawings_of(row):
        plain = plain_of_drawing(drawing)
        found[plain.text] = plain
    return [found[text] for text in sorted(found)]
