"""Closed lines that are really drawn: polygons, and what can be seen of them by measuring alone."""

from fractions import Fraction

NEAR = Fraction(1, 10 ** 15)


class Numbers:
    """Integers that look thrown but are the same each time."""

    def __init__(self, seed):
        self.state = seed

    def below(self, most):
        self.state = (self.state * 6364136223846793005 + 1442695040888963407) % 2 ** 64
        return (self.state >> 33) % most


def across(one, other):
    return one[0] * other[1] - one[1] * other[0]


def less(one, other):
    return one[0] - other[0], one[1] - other[1]


def plus(point, direction, part):
    return point[0] + part * direction[0], point[1] + part * direction[1]


class Picture:
    """A polygon in general position, walked along from its first corner on."""

    def __init__(self, corners):
        self.corners = corners
        self.directions = [less(end, start) for start, end in zip(corners, corners[1:] + corners[:1])]
        self.passings = self._passings()
        numbers = {}
        for _, crossing in self.passings:
            numbers.setdefault(crossing, len(numbers))
        self.row = "".join(["abcdefghijklmnopqrstuvwxyz"[numbers[crossing]] for _, crossing in self.passings])

    def _passings(self):
        """The passings in their order, each with the stretch, the part of it, and the pair of stretches that cross."""
        found = []
        many = len(self.corners)
        for j in range(many):
            for k in range(j + 2, many if j else many - 1):
                parts = self._where(j, k)
                if parts:
                    found.append(((j, parts[0]), (j, k)))
                    found.append(((k, parts[1]), (j, k)))
        return sorted(found)

    def _where(self, j, k):
        """In what parts of both stretches they cross, None if they do not."""
        one, other = self.directions[j], self.directions[k]
        turn = across(one, other)
        if turn == 0:
            return None
        apart = less(self.corners[k], self.corners[j])
        parts = Fraction(across(apart, other), turn), Fraction(across(apart, one), turn)
        return parts if all(0 < part < 1 for part in parts) else None

    def is_simple_enough(self):
        """Whether no three things meet in one point, there are one to ten crossings, and no corner lies on a line."""
        many = len(self.corners)
        if not 2 <= len(self.passings) <= 20 or len({where for where, _ in self.passings}) < len(self.passings):
            return False
        for j in range(many):
            for k in range(many):
                if k not in (j, (j + 1) % many):
                    if across(self.directions[j], less(self.corners[k], self.corners[j])) == 0:
                        return False
            if across(self.directions[j], self.directions[(j + 1) % many]) == 0:
                return False
        return True

    def sides(self):
        """For each letter, ascending, the side: from which hand one comes across at the later passing."""
        found = {}
        for (_, (j, k)), letter in zip(self.passings, self.row):
            # The lesser stretch is passed first.
            found[letter] = "+" if across(self.directions[j], self.directions[k]) > 0 else "-"
        return "".join([found[letter] for letter in sorted(found)])

    def edge_at(self, stretch, part):
        """On which edge a point of the line lies."""
        ahead = [where for where, _ in self.passings if where <= (stretch, part)]
        return (len(ahead) - 1) % len(self.row)

    def outside(self):
        """An element of the outside: the line at its leftmost corner, gone along so that the outside is to the left."""
        many = len(self.corners)
        corner = self.corners.index(min(self.corners))
        edge = self.edge_at(corner, 0)
        turns_left = across(self.directions[corner - 1], self.directions[corner % many]) > 0
        return -1 - edge if turns_left else edge

    def times_round(self, point):
        """How often the line goes round a point that is not on it."""
        times = 0
        for start, end in zip(self.corners, self.corners[1:] + self.corners[:1]):
            hand = across(less(end, start), less(point, start))
            if start[1] <= point[1] < end[1] and hand > 0:
                times += 1
            if end[1] <= point[1] < start[1] and hand < 0:
                times -= 1
        return times

    def beside(self, element):
        """A point just to the left of an element."""
        edge = element if element >= 0 else -1 - element
        (stretch, part), _ = self.passings[edge]
        further = [part for (other, part), _ in self.passings if other == stretch] + [Fraction(1)]
        middle = (part + min([other for other in further if other > part])) / 2
        ahead = self.directions[stretch]
        hand = (-ahead[1], ahead[0]) if element >= 0 else (ahead[1], -ahead[0])
        return plus(plus(self.corners[stretch], ahead, middle), hand, NEAR)

    def turns(self):
        """How often the line turns round to the left, less how often to the right, by how it passes the upright."""
        found = 0
        for one, other in zip(self.directions, self.directions[1:] + self.directions[:1]):
            hand = across(one, other)
            # Turning left from the lower half of directions into the upper one is a passing of the direction ahead.
            if hand > 0 and is_low(one) and not is_low(other):
                found += 1
            if hand < 0 and not is_low(one) and is_low(other):
                found -= 1
        return found

    def mirrored(self):
        return Picture([(-x, y) for x, y in self.corners])

    def walked_back(self):
        return Picture(self.corners[::-1])

    def begun(self, corner):
        return Picture(self.corners[corner:] + self.corners[:corner])


def is_low(direction):
    """Whether a direction points down, or straight back."""
    return direction[1] < 0 or (direction[1] == 0 and direction[0] < 0)


def pictures(many):
    """So many pictures, of lines with one letter to ten."""
    numbers = Numbers(20261118)
    found = []
    while len(found) < many:
        corners = [(numbers.below(60), numbers.below(60)) for _ in range(4 + numbers.below(5))]
        if len(set(corners)) == len(corners):
            picture = Picture(corners)
            if picture.is_simple_enough():
                found.append(picture)
    return found
