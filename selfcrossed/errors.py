"""The errors that the package raises, each under one of three base classes."""


class NotRight(ValueError):
    """What was passed is not of the kind that is asked for."""


class InvalidRow(NotRight):
    """What was passed is no row."""

    def __init__(self, given):
        self.given = given


class InvalidLetter(NotRight):
    """What was passed is no letter of the row, or not one that is asked for."""

    def __init__(self, given):
        self.given = given


class InvalidNumber(NotRight):
    """What was passed is no integer within the limits told."""

    def __init__(self, given):
        self.given = given


class InvalidPlace(NotRight):
    """What was passed is no place, or no tuple of places."""

    def __init__(self, given):
        self.given = given


class InvalidSides(NotRight):
    """What was passed is no string of sides for the row."""

    def __init__(self, given):
        self.given = given


class InvalidTurnings(NotRight):
    """What was passed is no string of turnings for the row."""

    def __init__(self, given):
        self.given = given


class InvalidOutside(NotRight):
    """What was passed is no outside of the drawing."""

    def __init__(self, given):
        self.given = given


class InvalidText(NotRight):
    """What was passed is no text of what is to be read."""

    def __init__(self, given):
        self.given = given


class InvalidName(NotRight):
    """What was passed is no name."""

    def __init__(self, given):
        self.given = given


class InvalidIndex(NotRight):
    """What was passed is no index of what is counted."""

    def __init__(self, given):
        self.given = given


class InvalidMove(NotRight):
    """What was passed is no move for the drawing."""

    def __init__(self, given):
        self.given = given


class InvalidDim(NotRight):
    """What was passed is no dim row."""

    def __init__(self, given):
        self.given = given


class InvalidClaim(NotRight):
    """What was passed is no claim."""

    def __init__(self, given):
        self.given = given


class InvalidCommand(NotRight):
    """What was passed is no command."""

    def __init__(self, given):
        self.given = given


class NotADrawing(NotRight):
    """What was passed is no drawing."""

    def __init__(self, given):
        self.given = given


class NotAThing(NotRight):
    """What was passed is neither a drawing nor a row that can be kept."""

    def __init__(self, given):
        self.given = given


class InvalidLines(NotRight):
    """No lines were passed; the index tells where they are wrong."""

    def __init__(self, index):
        self.index = index


class InvalidMoves(NotRight):
    """No moves for the drawing were passed; the index tells where they are wrong."""

    def __init__(self, index):
        self.index = index


class InvalidAreas(NotRight):
    """No sizes for the regions were passed; the index tells where they are wrong."""

    def __init__(self, index):
        self.index = index


class InvalidLetters(NotRight):
    """No letters of the kind asked for were passed; the index tells where they are wrong."""

    def __init__(self, index):
        self.index = index


class InvalidPolynomial(NotRight):
    """No polynomial was passed; the index tells where they are wrong."""

    def __init__(self, index):
        self.index = index


class NotKnown(LookupError):
    """What is asked for is not there, or is held by something else."""


class UnknownName(NotKnown):
    """The shelf has no such name, or a thing of the other sort under it."""

    def __init__(self, given):
        self.given = given


class InUse(NotKnown):
    """The claim with this index names the thing."""

    def __init__(self, index):
        self.index = index


class NothingToUndo(NotKnown):
    """No change is left that could be taken back."""


class NotPossible(ArithmeticError):
    """What is asked for cannot be done, though all that was passed is right."""


class NotFlat(NotPossible):
    """The row, or the row with its sides, cannot be drawn flat."""


class TooMany(NotPossible):
    """There are more than the most that are allowed."""

    def __init__(self, most):
        self.most = most


class NoMove(NotPossible):
    """Nothing is left that could be done, or nothing would be left."""


class Broken(NotPossible):
    """The claim with this index would not hold; what is shown tells why."""

    def __init__(self, index, shown):
        self.index = index
        self.shown = shown
