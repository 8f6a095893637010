"""Moves told once more by what they do to the regions: edges cut in pieces, pieces put together anew."""

LETTERS = "abcdefghij"


def edge_of(element):
    return element if element >= 0 else -1 - element


def turned(element):
    return -1 - element


def least_first(region):
    """The region from its least element on."""
    at = region.index(min(region))
    return tuple(region[at:] + region[:at])


class Cut:
    """A drawing some edges of which are cut in pieces by new letters."""

    def __init__(self, drawing, new_places):
        self.size = len(drawing.row)
        self.regions = [list(region) for region in drawing.regions]
        self.outside = drawing.regions.index(drawing.outside)
        self.new_places = new_places

    def pieces(self, element):
        """The pieces of the element's edge, in the order in which the element goes along them."""
        edge = edge_of(element)
        first = edge + sum([many for place, many in self.new_places.items() if place < edge])
        forwards = list(range(first, first + self.new_places.get(edge, 0) + 1))
        return forwards if element >= 0 else [turned(piece) for piece in reversed(forwards)]

    def put(self, told, more, outside=None):
        """The regions, ascending, and the outside when elements give way to what is told, and some are more.

        `told` has for elements what stands in their place; an element of one piece stays what it is.
        """
        made = []
        for region in self.regions:
            new = []
            for element in region:
                new.extend(told.get(element, self.pieces(element)))
            made.append(new)
        outer = made[self.outside] if outside is None else outside
        # A region that is taken apart gives way to its pieces.
        left = [region for region in made if region]
        return tuple(sorted([least_first(region) for region in left + more])), least_first(outer)


def loop_told(drawing, edge, way):
    """The regions and the outside behind a move "loop"."""
    cut = Cut(drawing, {edge: 2})
    first, loop, last = cut.pieces(edge)
    if way == "l":
        # To the left one goes round the loop from without, to the right straight on.
        told = {edge: [first, turned(loop), last], turned(edge): [turned(last), turned(first)]}
        return cut.put(told, [[loop]])
    told = {edge: [first, last], turned(edge): [turned(last), loop, turned(first)]}
    return cut.put(told, [[turned(loop)]])


def pair_told(drawing, one, other, part):
    """The regions and the outside behind a move "pair"."""
    cut = Cut(drawing, {edge_of(one): 2, edge_of(other): 2} if one != other else {edge_of(one): 4})
    index = [at for at, region in enumerate(cut.regions) if one in region][0]
    region = list(cut.regions[index])
    at = region.index(one)
    region = region[at:] + region[:at]
    behind_one, behind_other = region[1:region.index(other)], region[region.index(other) + 1:]
    if one == other:
        behind_one, behind_other = [], region[1:]
        first, one_middle, between, other_middle, last = cut.pieces(one)
        told = {turned(one): [turned(last), one_middle, turned(between), other_middle, turned(first)]}
        ends = [[between], [last, *whole(cut, behind_other), first]]
    else:
        first, one_middle, one_last = cut.pieces(one)
        other_first, other_middle, last = cut.pieces(other)
        told = {
            turned(one): [turned(one_last), other_middle, turned(first)],
            turned(other): [turned(last), one_middle, turned(other_first)],
        }
        ends = [[one_last, *whole(cut, behind_one), other_first], [last, *whole(cut, behind_other), first]]
    is_outside = index == cut.outside
    for element in region:
        told[element] = []
    pulled = [turned(one_middle), turned(other_middle)]
    return cut.put(told, ends + [pulled], ends[part] if is_outside else None)


def whole(cut, elements):
    """The pieces of edges that are not cut."""
    return [piece for element in elements for piece in cut.pieces(element)]


def straight(element, size):
    """The element that goes straight on behind this one."""
    return (element + 1) % size if element >= 0 else turned((edge_of(element) - 1) % size)


def three_told(drawing, least):
    """The regions and the outside behind a move "three": each edge has the three on its other hand."""
    cut = Cut(drawing, {})
    three = [region for region in cut.regions if region[0] == least][0]
    told = {turned(element): [] for element in three}
    for element in three:
        told[element] = [turned(element)]
    opposite = {}
    for index in range(3):
        one, other, far = three[index], three[(index + 1) % 3], three[(index + 2) % 3]
        # Across the letter between two of the edges the third one cuts off the corner.
        opposite[(turned(straight(one, cut.size)), straight(turned(other), cut.size))] = far
    for region in cut.regions:
        if region != three:
            for element, following in zip(region, region[1:] + region[:1]):
                if (element, following) in opposite:
                    told[element] = [element, opposite.pop((element, following))]
    assert not opposite
    return cut.put(told, [])


def moves_by_hand(drawing):
    """All moves of a drawing, as [16] tells them."""
    row, size = drawing.row, drawing.size
    ends = [(row[edge], row[(edge + 1) % len(row)]) for edge in range(len(row))]
    found = set()
    if size + 1 <= 10:
        found |= {("loop", edge, way) for edge in range(len(row)) for way in ("l", "r")}
    for region in drawing.regions:
        is_outside = region == drawing.outside
        edges = [edge_of(element) for element in region]
        if size + 2 <= 10:
            for one in region:
                for other in region:
                    found |= {("pair", one, other, part) for part in ([0, 1] if is_outside else [0])}
        if is_outside:
            continue
        if len(region) == 1 and size >= 2:
            found.add(("no loop", row[edges[0]]))
        if len(region) == 2 and size >= 3 and set(ends[edges[0]]) == set(ends[edges[1]]) and len(set(ends[edges[0]])) == 2:
            found.add(("no pair", *sorted(ends[edges[0]])))
        if len(region) == 3 and len({letter for edge in edges for letter in ends[edge]}) == 3 and len(set(edges)) == 3:
            found.add(("three", min(region)))
    return found


def told_of(drawing, move):
    """The regions and the outside behind a move that takes no letter out."""
    tellers = {"loop": loop_told, "pair": pair_told, "three": three_told}
    return tellers[move[0]](drawing, *move[1:])
