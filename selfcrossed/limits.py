"""The limits that the other modules keep to."""

MOST_LETTERS = 10
MOST_SIDES = 8
MOST_LISTED = 5
MOST_LINES = 3
MOST_UNSEEN = 6
MOST_DIM = 10
MOST_MOVES = 60
MOST_LED = 100
MOST_AREA = 10 ** 20
