"""Drawings behind a move, the move being known to be one for the drawing.

A drawing is told by its row, its sides and an element of its outside.
"""

from selfcrossed.drawings import Drawing
from selfcrossed.flat import TURNED_OVER
from selfcrossed.rows import ALPHABET, letters_of
from selfcrossed.walks import edge_of, end_of, gone_as


def drawing_behind(drawing, move):
    """Give the drawing behind the move."""
    row, sides, element = told_behind(drawing, move)
    return Drawing(row, sides, element)


def told_behind(drawing, move):
    """Give the row, the sides and an element of the outside of the drawing behind the move."""
    change = CHANGES[move[0]]
    return change(drawing, move)


def behind_loop(drawing, move):
    """Tell the drawing with a small loop more."""
    edge, way = move[1], move[2]
    letter = new_letters(drawing.row)[0]
    inserted = {edge: letter + letter}
    new_sides = {letter: "-" if way == "l" else "+"}
    return with_more(drawing, inserted, new_sides, first_piece(drawing.outside[0], inserted))


def behind_pair(drawing, move):
    """Tell the drawing with one stretch pushed over another one."""
    one, other, part = move[1], move[2], move[3]
    inserted = letters_of_pair(new_letters(drawing.row), one, other)
    outside = first_piece(drawing.outside[0], inserted)
    if one in drawing.outside:
        outside = last_piece(other, inserted) if part == 1 else piece_behind_two(one, inserted)
    return with_more(drawing, inserted, sides_of_pair(new_letters(drawing.row), one, other), outside)


def behind_no_loop(drawing, move):
    """Tell the drawing without the loop at the letter."""
    return without_letters(drawing, move[1], [loop_edge(drawing.row, move[1])])


def behind_no_pair(drawing, move):
    """Tell the drawing with the region between both letters pulled away."""
    letters = move[1] + move[2]
    inner = [region for region in drawing.regions if region != drawing.outside]
    pulled = [region for region in inner if pair_of(drawing.row, region) == letters][0]
    return without_letters(drawing, letters, [edge_of(each) for each in pulled])


def behind_three(drawing, move):
    """Tell the drawing with one stretch of the region pushed over the letter of the two others."""
    row = drawing.row
    # Places are exchanged, so that this tells both where a passing goes and which one comes.
    led_to = list(range(len(row)))
    edges = [edge_of(each) for each in region_with(drawing, move[1])]
    for edge in edges:
        following = (edge + 1) % len(row)
        led_to[edge], led_to[following] = following, edge
    new_row = "".join([row[place] for place in led_to])
    new_sides = [
        TURNED_OVER[side] if led_to[row.find(letter)] > led_to[row.rfind(letter)] else side
        for letter, side in zip(letters_of(row), drawing.sides)
    ]
    # The region's own edges have other regions beside them afterwards, all others the same ones.
    outside = [each for each in drawing.outside if edge_of(each) not in edges]
    return new_row, "".join(new_sides), outside[0]


def region_with(drawing, element):
    """Give the region of the drawing that has this element."""
    return [region for region in drawing.regions if element in region][0]


def new_letters(row):
    """List the letters that the row does not have, ascending."""
    return [letter for letter in ALPHABET if letter not in row]


def with_more(drawing, inserted, new_sides, outside):
    """Tell the drawing with further letters behind places and with their sides."""
    row = "".join([letter + inserted.get(place, "") for place, letter in enumerate(drawing.row)])
    side_of = dict(zip(letters_of(drawing.row), drawing.sides))
    side_of.update(new_sides)
    return row, "".join([side_of[letter] for letter in letters_of(row)]), outside


def letters_of_pair(new, one, other):
    """Give for each edge what a pair puts behind its place."""
    first, second = new[0], new[1]
    if one == other:
        return {edge_of(one): first + second + second + first}
    return {
        edge_of(one): first + second if one >= 0 else second + first,
        edge_of(other): second + first if other >= 0 else first + second,
    }


def sides_of_pair(new, one, other):
    """Give for both new letters of a pair their sides."""
    # Along one stretch gone twice, the later part is the earlier one for who goes backwards.
    is_other_earlier = edge_of(other) < edge_of(one) or (one == other and one < 0)
    times_turned = [one < 0, other < 0, is_other_earlier].count(True)
    side = "-" if times_turned & 1 == 1 else "+"
    return {new[0]: side, new[1]: TURNED_OVER[side]}


def first_piece(element, inserted):
    """Give the element for the first piece of the element's edge, by the places, behind letters being put in."""
    edge = edge_of(element)
    ahead = sum([len(inserted[place]) for place in inserted if place < edge])
    return gone_as(edge + ahead, element)


def last_piece(element, inserted):
    """Give the element for the piece of the element's edge that is gone along last, going as the element tells."""
    piece = first_piece(element, inserted)
    return piece + len(inserted[edge_of(element)]) if element >= 0 else piece


def piece_behind_two(element, inserted):
    """Give the element for the piece behind the second new letter, going as the element tells."""
    piece = first_piece(element, inserted)
    ahead = len(inserted[edge_of(element)]) - 2
    return piece + 2 if element >= 0 else piece - ahead


def without_letters(drawing, gone, pulled):
    """Tell the drawing without these letters, between which these edges are pulled away."""
    row = drawing.row
    new_row = "".join([letter for letter in row if letter not in gone])
    side_of = dict(zip(letters_of(row), drawing.sides))
    # The edges that are pulled away can be beside another region afterwards; the other ones stay where they are.
    kept = [each for each in drawing.outside if edge_of(each) not in pulled][0]
    outside = gone_as(edge_without(row, edge_of(kept), gone), kept)
    return new_row, "".join([side_of[letter] for letter in letters_of(new_row)]), outside


def edge_without(row, edge, gone):
    """Give the edge that has this edge as a piece when these letters are gone."""
    left = [place for place, letter in enumerate(row) if letter not in gone]
    ahead = [place for place in left if place <= edge]
    return (len(ahead) - 1) % len(left)


def loop_edge(row, letter):
    """Give the edge that leads from the letter to itself, None if there is none."""
    for edge in range(len(row)):
        if row[edge] == letter and row[(edge + 1) % len(row)] == letter:
            return edge
    return None


def corners(row, region):
    """Give the letters to which the elements of the region lead, as a string."""
    return "".join([row[end_of(element, len(row))] for element in region])


def pair_of(row, region):
    """Give the letters, ascending, of a region of two edges that lead from one to the other, None for another one."""
    letters = corners(row, region)
    if len(letters) != 2 or letters[0] == letters[1]:
        return None
    return "".join(sorted(letters))


CHANGES = {
    "loop": behind_loop, "pair": behind_pair, "no loop": behind_no_loop, "no pair": behind_no_pair,
    "three": behind_three,
}
