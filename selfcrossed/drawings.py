"""Drawings: rows with sides without handles and an outside, and when two of them are the same.

What a drawing is made of is passed round here as a triple of row, sides and outside, the outside with all its elements
in any order.
"""

from selfcrossed.errors import (
    InvalidNumber, InvalidOutside, InvalidRow, InvalidSides, InvalidText, NotADrawing, NotFlat,
)
from selfcrossed.flat import (
    TURNED_OVER, are_evenly_apart, flat_sides_of, is_flat_row, is_sides, region_at, regions_of,
)
from selfcrossed.integers import is_from_to, is_integer
from selfcrossed.rows import (
    ALPHABET, all_rows, begun_from, check_place, check_row, check_size, is_begun_plain, is_row, least_ways, letters_of,
    plain_of,
)
from selfcrossed.walks import edge_of, gone_as

MOST_DRAWN = 6
MOST_COUNTED = 3


class Found:
    """The regions of a row with sides that are known to have no handles, and which of them is the outside.

    It can be passed as the outside of a drawing where nothing is left to be asked.
    """

    def __init__(self, around, outer):
        self.around = around
        self.outer = outer


class Drawing:
    """A row with sides that have no handles, and the region that is the outside."""

    def __init__(self, row, sides, outside):
        found = outside if isinstance(outside, Found) else found_by(row, sides, outside)
        self._row = row
        self._sides = sides
        self._regions = found.around
        self._outer = found.outer
        self._text = text_of((row, sides, found.outer))

    @staticmethod
    def read(text):
        """Give the drawing with this text."""
        drawing = drawing_in(text)
        if drawing is None:
            raise InvalidText(text)
        return drawing

    @property
    def row(self):
        """The row."""
        return self._row

    @property
    def sides(self):
        """The sides of the letters, ascending."""
        return self._sides

    @property
    def outside(self):
        """The region that is the outside."""
        return self._outer

    @property
    def regions(self):
        """The ascending tuple of the regions."""
        return self._regions

    @property
    def size(self):
        """The number of letters."""
        return len(self._sides)

    @property
    def text(self):
        """The row, the sides and the least element of the outside, with single spaces."""
        return self._text

    def __eq__(self, other):
        return isinstance(other, Drawing) and self._text == other._text


def begun_at(drawing, place):
    """Give the drawing begun at this place."""
    check_drawing(drawing)
    check_place(drawing.row, place)
    return drawn(begun_told(told_of(drawing), place))


def walked_back(drawing):
    """Give the drawing walked backwards."""
    check_drawing(drawing)
    return drawn(back_told(told_of(drawing)))


def mirror(drawing):
    """Give the mirror of the drawing."""
    check_drawing(drawing)
    return drawn(mirror_told(told_of(drawing)))


def turned_out(drawing, region):
    """Give the drawing with this region as the outside."""
    check_drawing(drawing)
    check_region(drawing, region)
    return Drawing(drawing.row, drawing.sides, Found(drawing.regions, region))


def plain_drawing(drawing):
    """Give the plain drawing of the drawing."""
    check_drawing(drawing)
    return plain_of_drawing(drawing)


def are_same(one, other):
    """Tell whether both drawings are the same."""
    check_drawing(one)
    check_drawing(other)
    return are_same_drawings(one, other)


def is_own_mirror(drawing):
    """Tell whether the drawing is the same as its mirror."""
    check_drawing(drawing)
    told = told_of(drawing)
    return plain_told(told) == plain_told(mirror_told(told))


def drawings_of(row):
    """Give the plain drawings of all drawings of the row, ascending by their texts."""
    check_row(row)
    if not is_flat_row(row):
        raise NotFlat()
    check_size(row, MOST_DRAWN)
    least = plain_of(row)
    told = unlike_drawings_of(least, least_ways(least)[1])
    drawings = [Drawing(least, sides, found) for sides, found in told]
    by_text = {drawing.text: drawing for drawing in drawings}
    return tuple([by_text[text] for text in sorted(by_text)])


def count_drawings(number):
    """Count the unlike plain drawings with so many letters."""
    if not is_from_to(number, 1, MOST_COUNTED):
        raise InvalidNumber(number)
    # Drawings of unlike plain rows are unlike.
    told = {row: least_ways(row) for row in all_rows(number) if are_evenly_apart(row) and is_begun_plain(row)}
    return sum([len(unlike_drawings_of(row, told[row][1])) for row in told if told[row][0] == row])


def check_drawing(drawing):
    """Raise the error for what is no drawing."""
    if not isinstance(drawing, Drawing):
        raise NotADrawing(drawing)


def check_region(drawing, region):
    """Raise the error for what is none of the drawing's regions."""
    # What is in the tuple is asked first, as Python takes True for the edge 1.
    if not isinstance(region, tuple) or not all([is_integer(element) for element in region]):
        raise InvalidOutside(region)
    if region not in drawing.regions:
        raise InvalidOutside(region)


def found_by(row, sides, outside):
    """Find the regions of what is to be a drawing, or raise the error for what makes none."""
    if not is_row(row):
        raise InvalidRow(row)
    if not is_sides(row, sides):
        raise InvalidSides(sides)
    if not is_from_to(outside, -len(row), len(row) - 1):
        raise InvalidOutside(outside)
    around = tuple(regions_of(row, sides))
    if not are_without_handles(row, around):
        raise NotFlat()
    return Found(around, region_with(around, outside))


def are_without_handles(row, found):
    """Tell whether the row with sides has no handles, these being its regions."""
    return len(found) == len(row) // 2 + 2


def region_with(found, element):
    """Give the one of these regions that has this element."""
    return [region for region in found if element in region][0]


def text_of(told):
    """Write the text of a drawing."""
    row, sides, outside = told
    return f"{row} {sides} {min(outside)}"


def drawing_in(text):
    """Give the drawing with this text, None for any other value."""
    words = text.split(" ") if isinstance(text, str) else []
    if len(words) != 3 or not is_row(words[0]) or not is_sides(words[0], words[1]):
        return None
    found = regions_of(words[0], words[1])
    if are_without_handles(words[0], found):
        for region in found:
            if text_of((words[0], words[1], region)) == text:
                return Drawing(words[0], words[1], region[0])
    return None


def told_of(drawing):
    """Give the triple of what the drawing is made of."""
    return drawing.row, drawing.sides, drawing.outside


def told_with(row, sides, element):
    """Give the triple of what a drawing with this element of its outside is made of."""
    return row, sides, region_at(row, sides, element)


def drawn(told):
    """Give the drawing that is made of this."""
    row, sides, outside = told
    return Drawing(row, sides, outside[0])


def begun_told(told, place):
    """Begin what a drawing is made of at this place."""
    row, sides, outside = told
    ahead = row[:place]
    # A letter that is passed once ahead of the place has its earlier passing made the later one.
    begun_sides = [
        TURNED_OVER[side] if ahead.count(letter) == 1 else side for letter, side in zip(letters_of(row), sides)
    ]
    begun_outside = [gone_as((edge_of(each) - place) % len(row), each) for each in outside]
    return begun_from(row, place), "".join(begun_sides), tuple(begun_outside)


def back_told(told):
    """Walk what a drawing is made of backwards."""
    row, sides, outside = told
    return row[::-1], turned_over(sides), tuple([gone_back(each, len(row)) for each in outside])


def mirror_told(told):
    """Mirror what a drawing is made of."""
    row, sides, outside = told
    return row, turned_over(sides), tuple([-1 - each for each in outside])


def turned_over(sides):
    """Turn all sides over."""
    return "".join([TURNED_OVER[side] for side in sides])


def plain_told(told):
    """Give what the plain drawing is made of, the outside by its least element alone."""
    return plain_by(told, least_ways(told[0]))


def plain_by(told, least_and_ways):
    """Give what `plain_told` gives by what `least_ways` tells of the row."""
    row, sides, outside = told
    least, ways = least_and_ways
    least_sides, fitting = sides_along(row, sides, least, ways)
    return least, least_sides, least_along(outside, len(row), fitting)


def sides_along(row, sides, least, ways):
    """Give the least sides that there are along the ways to the plain row, and the ways along which there are these."""
    seen = "".join(seen_sides(row, sides))
    by_turn = (seen + seen, (seen + seen)[::-1])
    firsts = [least.find(letter) for letter in ALPHABET[:len(sides)]]
    made = ["".join([by_turn[turn][start + place] for place in firsts]) for start, turn in ways]
    least_sides = min(made)
    return least_sides, [way for way, told in zip(ways, made) if told == least_sides]


def seen_sides(row, sides):
    """List for each place the side that its letter has if one comes there first, whichever way one goes."""
    side_of = dict(zip(letters_of(row), sides))
    found = []
    for letter in row:
        found.append(side_of[letter])
        # From the letter's other place the passings are exchanged.
        side_of[letter] = TURNED_OVER[side_of[letter]]
    return found


def least_along(outside, size, ways):
    """Give the least element of the outside along one of these ways in a row of so many places."""
    # Read backwards, an edge is told from behind, and what was gone forwards is gone backwards.
    forwards = [each for each in outside if each >= 0]
    backwards = [-1 - each for each in outside if each < 0]
    by_turn = (
        (forwards, backwards), ([size - 2 - edge for edge in backwards], [size - 2 - edge for edge in forwards]),
    )
    found = []
    for start, turn in ways:
        ahead, behind = by_turn[turn]
        # What goes backwards is less than what goes forwards, and the less the greater its edge is.
        if behind:
            found.append(-1 - max([(edge - start) % size for edge in behind]))
        else:
            found.append(min([(edge - start) % size for edge in ahead]))
    return min(found)


def gone_back(element, size):
    """Give what the element becomes when a row of so many places is walked backwards."""
    return gone_as((size - 2 - edge_of(element)) % size, -1 - element)


def plain_of_drawing(drawing):
    """Give the plain drawing of what is known to be a drawing."""
    row, sides, element = plain_told(told_of(drawing))
    return Drawing(row, sides, element)


def are_same_drawings(one, other):
    """Tell whether both, known to be drawings, are the same."""
    return plain_told(told_of(one)) == plain_told(told_of(other))


def unlike_drawings_of(least, own_ways):
    """List the sides, and the regions with the outside, of all unlike plain drawings of a plain row.

    The row becomes itself along its own ways, told as by `least_ways`.
    """
    drawings = []
    for sides, ways in unlike_sides_of(least, own_ways):
        around = tuple(regions_of(least, sides))
        drawings.extend([(sides, Found(around, region)) for region in unlike_regions(around, len(least), ways)])
    return drawings


def unlike_regions(around, size, ways):
    """List those of the regions of a row of so many places that none of these ways makes a lesser one."""
    if len(ways) == 1:
        # Only the way that changes nothing is among them.
        return list(around)
    index_at = {element: index for index, region in enumerate(around) for element in region}
    known = {}
    found = []
    for index, region in enumerate(around):
        if index not in known:
            found.append(region)
            for element in along_all(region[0], size, ways):
                known[index_at[element]] = True
    return found


def along_all(element, size, ways):
    """List what the element becomes along these ways in a row of so many places."""
    edge = edge_of(element)
    found = []
    for start, turn in ways:
        new_edge = (size - 2 - edge - start if turn == 1 else edge - start) % size
        # Read backwards, what was gone forwards is gone backwards.
        found.append(new_edge if (element >= 0) == (turn == 0) else -1 - new_edge)
    return found


def unlike_sides_of(least, ways):
    """List the sides without handles of a plain row that are least along all ways on which the row becomes itself.

    With each of them stand the ways along which they become themselves.
    """
    seen_along = indexes_along(least, ways)
    known = {}
    found = []
    for sides in flat_sides_of(least):
        if sides not in known:
            both = sides + turned_over(sides)
            made = ["".join([both[index] for index in indexes]) for indexes in seen_along]
            known.update({other: True for other in made})
            found.append((sides, [way for way, other in zip(ways, made) if other == sides]))
    return found


def indexes_along(least, ways):
    """List for each of these ways where the sides of a plain row, ascending, are found along it.

    They are indexes of all sides followed by all sides turned over.
    """
    size = len(least)
    # From the letter's later place the passings are exchanged.
    seen = [
        ALPHABET.find(letter) + (0 if least.find(letter) == place else size // 2) for place, letter in enumerate(least)
    ]
    by_turn = (seen + seen, (seen + seen)[::-1])
    firsts = [least.find(letter) for letter in ALPHABET[:size // 2]]
    return [[by_turn[turn][start + place] for place in firsts] for start, turn in ways]
