"""How wrong arguments are asked for: one wrong, several wrong, and errors that come behind all others."""

import unittest

from tests.kinds import Plain, Touchy, raised


class Wrong(unittest.TestCase):
    def assert_raised(self, action, arguments, names, kind, attributes):
        """By position and by name, just this error comes with just these attributes."""
        for error in (raised(action, arguments), raised(action, arguments, names)):
            # The class alone is shown on failure, as some of the values cannot be shown.
            self.assertTrue(error.__class__ is kind, f"{action.__name__}: {error.__class__} instead of {kind}")
            self.assertEqual(list(vars(error)), list(attributes))
            for name, worth in attributes.items():
                self.assertTrue(getattr(error, name) is worth, f"{action.__name__}: another {name} is kept")

    def assert_each_is_told(self, action, right, wrong):
        """Each wrong value is told with the others right, and also with wrong ones behind it.

        `right` has the arguments in the order of the parameters, `wrong` for each of them the wrong values and the
        class of the error, which is made with what is given.
        """
        names = list(right)
        for index, name in enumerate(names):
            values, kind = wrong[name]
            for value in values:
                arguments = [*list(right.values())[:index], value, *list(right.values())[index + 1:]]
                self.assert_raised(action, arguments, names, kind, {"given": value})
            for value in values[:40]:
                for other in (None, True, b"", 1j, (None,), [], {}, Plain(), Touchy()):
                    arguments = [*list(right.values())[:index], value] + [other] * (len(names) - index - 1)
                    self.assert_raised(action, arguments, names, kind, {"given": value})

    def assert_comes_last(self, action, right, wrong, kind, attributes):
        """The error comes with these right arguments, but not if one of them is wrong, the first one too."""
        names = list(right)
        self.assert_raised(action, list(right.values()), names, kind, attributes)
        for index, name in enumerate(names):
            values, other_kind = wrong[name]
            for value in values:
                arguments = [*list(right.values())[:index], value, *list(right.values())[index + 1:]]
                self.assert_raised(action, arguments, names, other_kind, {"given": value})
