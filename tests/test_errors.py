import unittest

from selfcrossed import errors
from tests.kinds import no_rows, no_strings_or_integers

BASES = {"NotRight": ValueError, "NotKnown": LookupError, "NotPossible": ArithmeticError}
TOLD = {
    "NotRight": {
        "InvalidRow": ["given"], "InvalidLetter": ["given"], "InvalidNumber": ["given"], "InvalidPlace": ["given"],
        "InvalidSides": ["given"], "InvalidTurnings": ["given"], "InvalidOutside": ["given"], "InvalidText": ["given"],
        "InvalidName": ["given"], "InvalidIndex": ["given"], "InvalidMove": ["given"], "InvalidDim": ["given"],
        "InvalidClaim": ["given"], "InvalidCommand": ["given"], "NotADrawing": ["given"], "NotAThing": ["given"],
        "InvalidLines": ["index"], "InvalidMoves": ["index"], "InvalidAreas": ["index"], "InvalidLetters": ["index"],
        "InvalidPolynomial": ["index"],
    },
    "NotKnown": {"UnknownName": ["given"], "InUse": ["index"], "NothingToUndo": []},
    "NotPossible": {"NotFlat": [], "TooMany": ["most"], "NoMove": [], "Broken": ["index", "shown"]},
}


def told():
    return [(base, name, names) for base in TOLD for name, names in TOLD[base].items()]


def in_package(kind):
    return [each.__name__ for each in kind.__mro__ if each.__module__.startswith("selfcrossed")]


class Errors(unittest.TestCase):
    def test_just_these_classes(self):
        kept = {name for name, worth in vars(errors).items() if isinstance(worth, type)}
        self.assertEqual(kept, set(BASES) | {name for _, name, _ in told()})
        self.assertEqual(len(told()), 28)

    def test_base_classes(self):
        for name, kind in BASES.items():
            self.assertEqual(getattr(errors, name).__bases__, (kind,))
            self.assertEqual(getattr(errors, name).__module__, "selfcrossed.errors")

    def test_each_is_under_its_base_alone(self):
        for base, name, _ in told():
            with self.subTest(name):
                kind = getattr(errors, name)
                self.assertEqual(kind.__module__, "selfcrossed.errors")
                self.assertEqual(in_package(kind), [name, base])
                for other, above in BASES.items():
                    self.assertEqual(issubclass(kind, getattr(errors, other)), other == base)
                    self.assertEqual(issubclass(kind, above), other == base)

    def test_made_by_position_and_by_name(self):
        for _, name, names in told():
            with self.subTest(name):
                kind = getattr(errors, name)
                worths = [object() for _ in names]
                for error in (kind(*worths), kind(**dict(zip(names, worths)))):
                    self.assertIsInstance(error, kind)
                    self.assertEqual([key for key in vars(error)], names)
                    for key, worth in zip(names, worths):
                        self.assertIs(getattr(error, key), worth)

    def test_names_in_any_order(self):
        error = errors.Broken(shown="a", index=3)
        self.assertEqual((error.index, error.shown), (3, "a"))

    def test_keep_whatever_they_are_made_with(self):
        for worth in no_rows():
            for _, name, names in told():
                error = getattr(errors, name)(*[worth for _ in names])
                for key in names:
                    self.assertIs(getattr(error, key), worth)

    def test_made_with_lists_changes_nothing(self):
        worth = [1, [2], {"a": 3}]
        for _, name, names in told():
            getattr(errors, name)(*[worth for _ in names])
        self.assertEqual(worth, [1, [2], {"a": 3}])

    def test_attributes_are_needed(self):
        for _, name, names in told():
            if names:
                with self.subTest(name), self.assertRaises(TypeError):
                    getattr(errors, name)()

    def test_caught_by_base(self):
        for base, name, names in told():
            for kind in (getattr(errors, name), getattr(errors, base), BASES[base]):
                with self.assertRaises(kind):
                    raise getattr(errors, name)(*names)

    def test_are_true_and_equal_themselves_only(self):
        for worth in no_strings_or_integers():
            one, other = errors.InvalidRow(worth), errors.InvalidRow(worth)
            self.assertTrue(one)
            self.assertTrue(one == one)
            self.assertTrue(one != other)
