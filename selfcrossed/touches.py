"""Rows whose line is turned against at all letters, so that it only touches itself where it crossed itself (Dehn).

If the row is flat, the line makes a ring then, and each letter joins two places of it by a stretch within the ring or
without, stretches that part one another lying on unlike hands. From this the sides are found, without the letters that
part one another in the row itself; whether they have handles is left to be asked.
"""

from selfcrossed.rows import letters_of


def sides_by_touches(row):
    """Give sides that have no handles if any have none, and the lots of letters that can be turned over for others.

    None is given if no hands fit all stretches, so that the row is not flat.
    """
    text, walk = touching(row)
    own = letters_of(row)
    hands, lots = hands_of(text, own)
    if hands is None:
        return None
    return "".join([side_at(row, letter, text, walk, hands[letter]) for letter in own]), lots


def touching(row):
    """Give the letters in the order in which the turned line meets them, and the elements gone along behind each."""
    text = row
    walk = list(range(len(row)))
    for letter in letters_of(row):
        first, last = text.find(letter), text.rfind(letter)
        text = text[:first + 1] + text[first + 1:last][::-1] + text[last:]
        walk[first:last] = [-1 - element for element in walk[first:last][::-1]]
    return text, walk


def hands_of(text, own):
    """Give a hand for each letter, 0 or 1, unlike ones where stretches part one another, and the lots that do so.

    None stands for the hands if there are no such ones.
    """
    places = {letter: (text.find(letter), text.rfind(letter)) for letter in own}
    apart = {letter: [other for other in own if are_apart(places[letter], places[other])] for letter in own}
    hands = {}
    lots = []
    for start in own:
        if start not in hands:
            lots.append(lot_from(start, apart, hands))
    do_fit = all([hands[letter] != hands[other] for letter in own for other in apart[letter]])
    return (hands if do_fit else None), lots


def lot_from(start, apart, hands):
    """List the letters that hang together with this one, and give each of them a hand."""
    hands[start] = 0
    lot = [start]
    index = 0
    while index < len(lot):
        letter = lot[index]
        index += 1
        for other in apart[letter]:
            if other not in hands:
                hands[other] = 1 - hands[letter]
                lot.append(other)
    return lot


def are_apart(one, other):
    """Tell whether two pairs of places part one another."""
    return one[0] < other[0] < one[1] < other[1] or other[0] < one[0] < other[1] < one[1]


def side_at(row, letter, text, walk, hand):
    """Give the side of the letter if its stretch lies on this hand, 0 being within the ring, gone against the clock."""
    first, last = text.find(letter), text.rfind(letter)
    # Against the clock, each half edge told by the element that leaves the letter along it.
    around = [walk[first], -1 - walk[last - 1], walk[last], -1 - walk[first - 1]]
    following = around[around.index(row.find(letter)) - 3]
    is_plus = following == row.rfind(letter)
    return "+" if is_plus == (hand == 0) else "-"
