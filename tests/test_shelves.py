"""What [24] and the interface say of shelves: each deed does what is due, or raises what is due and changes nothing."""

import unittest

from selfcrossed import errors
from selfcrossed.drawings import Drawing, mirror, turned_out, walked_back
from selfcrossed.numbers import three_ways
from selfcrossed.rows import begun
from selfcrossed.shelves import Shelf
from tests.few import drawings_with, rows_with
from tests.kinds import EqualToAll, LikeOne, Plain, Touchy, no_strings_or_integers, raised, some_integers, some_strings
from tests.pictures import Numbers
from tests.shelved import SORTS, Model, asked

CURL = Drawing("aa", "+", -1)
EIGHT = Drawing("aa", "+", 0)
THREE = Drawing("abcabc", "+-+", -5)
RING = "abcabc"
SEVEN = "abcdefgabcdefg"


def told(shelf):
    """All that a shelf tells of itself."""
    return shelf.names, shelf.claims, shelf.changes, [shelf.thing(name) for name in shelf.names]


def filled():
    shelf = Shelf()
    shelf.put("ring", RING)
    shelf.put("knot", CURL)
    shelf.put("other", "abab")
    shelf.claim(("flat", "ring"))
    shelf.claim(("turns", "knot", 2))
    shelf.claim(("rounds", "ring", "ooo", 2))
    return shelf


def chosen(values, numbers):
    return values[numbers.below(len(values))]


def some_thing(numbers):
    rows = rows_with(1) + rows_with(2) + rows_with(3)[::2] + [SEVEN, "aabbccddeeffgghh", "aabbccddeeffgg"]
    drawings = drawings_with(1) + drawings_with(2)[::3] + [THREE]
    return chosen(rows if numbers.below(5) < 3 else drawings, numbers)


def some_claim(things, numbers):
    """A claim of things, most often one that holds."""
    names = sorted(things) + ["none"]
    word = chosen(list(SORTS), numbers)
    claim = [word] + [chosen(names, numbers) for _ in SORTS[word]]
    if word == "rounds":
        claim.append("".join([chosen("=ox", numbers) for _ in range(1 + numbers.below(3))]))
    if word in ("handles", "turns", "three ways", "rounds"):
        claim.append(1 + numbers.below(3))
        if numbers.below(4) and all([name in things for name in claim[1:1 + len(SORTS[word])]]):
            if isinstance(things[claim[1]], Drawing) == (word in ("turns", "three ways")):
                claim[-1] = asked(things, claim)[1] or claim[-1]
    return tuple(claim)


def some_deed(model, numbers):
    """The name of a method and what it is called with."""
    things, claims = model.now
    way = numbers.below(12)
    if way < 4:
        return "put", [chosen(["a", "b", "c", "knot", "abcdefgh"], numbers), some_thing(numbers)]
    if way < 9:
        return "claim", [some_claim(things, numbers)]
    if way == 9:
        return "drop", [chosen(["a", "b", "none"] + sorted(things), numbers)]
    if way == 10:
        return "lift", [numbers.below(len(claims) + 2) - 1]
    return "undo", []


class Deeds(unittest.TestCase):
    def test_new(self):
        self.assertEqual(told(Shelf()), ((), (), 0, []))

    def test_whatever_is_done(self):
        numbers = Numbers(24)
        counted = {}
        for _ in range(25):
            shelf, model = Shelf(), Model()
            for _ in range(60):
                name, arguments = some_deed(model, numbers)
                due = getattr(model, name)(*arguments)
                error = raised(getattr(shelf, name), arguments)
                if due is None:
                    self.assertIsNone(error)
                else:
                    self.assertIs(error.__class__, due[0])
                    self.assertEqual(vars(error), due[1])
                self.assertEqual(told(shelf), model.told())
                self.assertEqual([asked(model.now[0], claim)[0] for claim in shelf.claims], [True] * len(shelf.claims))
                key = name, error.__class__.__name__
                counted[key] = counted.get(key, 0) + 1
            while shelf.changes:
                shelf.undo()
                model.undo()
                self.assertEqual(told(shelf), model.told())
            self.assertIsInstance(raised(shelf.undo, []), errors.NothingToUndo)
        for name in ("Broken", "InUse", "UnknownName", "InvalidIndex", "NothingToUndo", "NoneType"):
            self.assertGreater(sum([counted[key] for key in counted if key[1] == name]), 5, name)

    def test_what_is_given_back(self):
        shelf = filled()
        self.assertIsNone(shelf.put("b", "aa"))
        self.assertIsNone(shelf.claim(("flat", "b")))
        self.assertIsNone(shelf.lift(3))
        self.assertIsNone(shelf.drop("b"))
        self.assertIsNone(shelf.undo())
        self.assertIs(shelf.thing("knot"), CURL)

    def test_the_same_again_is_a_change(self):
        shelf = filled()
        shelf.put("ring", RING)
        shelf.claim(("flat", "ring"))
        self.assertEqual([shelf.changes, shelf.claims[3]], [8, ("flat", "ring")])

    def test_names(self):
        shelf = Shelf()
        for name in ("z", "abcdefgh", "a", "aa", "zzzzzzzz"):
            shelf.put(name, "aa")
        self.assertEqual(shelf.names, ("a", "aa", "abcdefgh", "z", "zzzzzzzz"))
        self.assertTrue("aa" in shelf and "b" not in shelf)

    def test_in(self):
        shelf = filled()
        for value in no_strings_or_integers() + some_strings() + some_integers() + ["rings", "rin", "Ring", CURL, RING]:
            self.assertIs(value in shelf, False)
        self.assertIs("ring" in shelf, True)

    def test_rows_of_eight_letters_and_drawings_of_ten(self):
        shelf = Shelf()
        shelf.put("a", "abcdefghabcdefgh")
        shelf.put("b", Drawing("aabbccddeeffgghhiijj", "+" * 10, 1))
        shelf.claim(("three ways", "b", three_ways(shelf.thing("b"))))
        self.assertEqual([shelf.names, len(shelf.claims)], [("a", "b"), 1])

    def test_another_sort_in_its_place_if_no_claim_names_it(self):
        shelf = filled()
        shelf.put("other", THREE)
        shelf.put("other", "aabb")
        self.assertEqual(shelf.thing("other"), "aabb")


class Claims(unittest.TestCase):
    def assert_holds(self, things, claim):
        shelf = shelf_with(things)
        shelf.claim(claim)
        self.assertEqual(shelf.claims, (claim,))

    def assert_broken(self, things, claim, shown):
        shelf = shelf_with(things)
        error = raised(shelf.claim, [claim])
        self.assertEqual([error.__class__, error.index, error.shown], [errors.Broken, 0, shown])
        self.assertEqual([shelf.claims, shelf.changes], [(), len(things)])

    def test_flat(self):
        self.assert_holds({"a": RING}, ("flat", "a"))
        self.assert_broken({"a": "abab"}, ("flat", "a"), "a")
        self.assert_broken({"a": "abcabdecde"}, ("flat", "a"), "ad")
        self.assert_holds({"a": "abab"}, ("not flat", "a"))
        self.assert_broken({"a": RING}, ("not flat", "a"), "+-+")

    def test_same(self):
        self.assert_holds({"a": "abba", "b": "jjcc"}, ("same", "a", "b"))
        self.assert_broken({"a": "dcdc", "b": "jjcc"}, ("same", "a", "b"), ("abab", "aabb"))
        self.assert_holds({"a": THREE, "b": walked_back(THREE)}, ("same", "a", "b"))
        self.assert_broken({"a": walked_back(CURL), "b": EIGHT}, ("same", "a", "b"), ("aa + -1", "aa + -2"))
        self.assert_holds({"a": RING}, ("same", "a", "a"))

    def test_one_web(self):
        self.assert_holds({"a": RING, "b": "abacbc"}, ("one web", "a", "b"))
        self.assert_broken({"a": "aa", "b": "aabb"}, ("one web", "a", "b"), None)
        # More than six letters are too many to be of one web, also with itself.
        self.assert_broken({"a": SEVEN}, ("one web", "a", "a"), None)
        self.assert_broken({"a": SEVEN, "b": "aa"}, ("one web", "b", "a"), None)
        self.assert_holds({"a": "abcdefabcdef"}, ("one web", "a", "a"))

    def test_numbers(self):
        self.assert_holds({"a": "abab"}, ("handles", "a", 1))
        self.assert_broken({"a": "abab"}, ("handles", "a", 0), 1)
        self.assert_broken({"a": RING}, ("handles", "a", 10), 0)
        self.assert_holds({"a": CURL}, ("turns", "a", 2))
        self.assert_broken({"a": CURL}, ("turns", "a", -1000), 2)
        self.assert_broken({"a": turned_out(CURL, (1,))}, ("turns", "a", 1000), -2)
        self.assert_holds({"a": CURL}, ("three ways", "a", 1))
        self.assert_broken({"a": CURL}, ("three ways", "a", 0), 1)

    def test_rounds(self):
        self.assert_holds({"a": RING}, ("rounds", "a", "ooo", 2))
        self.assert_broken({"a": RING}, ("rounds", "a", "ooo", 1), 2)
        self.assert_broken({"a": RING}, ("rounds", "a", "xxx", 20), 3)
        for turnings in ("", "oo", "oooo", "=" * 5000):
            self.assert_broken({"a": RING}, ("rounds", "a", turnings, 2), None)

    def test_the_first_that_does_not_hold(self):
        shelf = shelf_with({"a": RING, "b": "abcacb", "c": "aabbcc"})
        for claim in (("flat", "c"), ("flat", "a"), ("handles", "a", 0), ("rounds", "a", "ooo", 2), ("same", "a", "a")):
            shelf.claim(claim)
        error = raised(shelf.put, ["a", "abab"])
        self.assertEqual([error.index, error.shown], [1, "a"])
        error = raised(shelf.put, ["a", "aabb"])
        self.assertEqual([error.index, error.shown], [3, None])
        error = raised(shelf.put, ["a", "aabbcc"])
        self.assertEqual([error.index, error.shown], [3, 4])
        self.assertEqual([shelf.thing("a"), shelf.changes], [RING, 8])
        shelf.put("a", "cabcab")

    def test_lifted_claims_are_not_asked(self):
        shelf = filled()
        shelf.lift(0)
        shelf.lift(1)
        shelf.put("ring", "abab")
        self.assertEqual(shelf.claims, (("turns", "knot", 2),))
        shelf.undo()
        shelf.undo()
        shelf.undo()
        error = raised(shelf.put, ["ring", "abab"])
        self.assertEqual([error.index, error.shown], [0, "a"])


def shelf_with(things):
    shelf = Shelf()
    for name in things:
        shelf.put(name, things[name])
    return shelf


class Refused(unittest.TestCase):
    def assert_refused(self, shelf, action, arguments, names, kind, attributes):
        before = told(shelf)
        for error in (raised(action, arguments), raised(action, arguments, names)):
            self.assertTrue(error.__class__ is kind, f"{error.__class__} instead of {kind}")
            self.assertEqual(list(vars(error)), list(attributes))
            for name, worth in attributes.items():
                kept = getattr(error, name)
                self.assertTrue(kept is worth or (name == "shown" and kept == worth), f"another {name} is kept")
            self.assertEqual(told(shelf), before)

    def test_names(self):
        shelf = filled()
        wrong = ["abcdefghi", "Ring", "a b", "ring ", "a1", "a-b", "", "ring\n", "a_", "z" * 8000]
        for name in no_strings_or_integers() + [text for text in some_strings() if text not in ("k", "kk", "z", "aaa")] + some_integers() + wrong:
            for thing in (RING, CURL, None, Touchy()):
                self.assert_refused(shelf, shelf.put, [name, thing], ["name", "thing"], errors.InvalidName, {"given": name})

    def test_things(self):
        shelf = filled()
        wrong = ["abcdefghiabcdefghi", "aabbccddeeffgghhii", "aab", "aa + -1", ["aa"], ("aa", "+", -1), shelf, Drawing]
        for thing in no_strings_or_integers() + some_strings() + some_integers() + wrong:
            for name in ("new", "ring", "knot"):
                self.assert_refused(shelf, shelf.put, [name, thing], ["name", "thing"], errors.NotAThing, {"given": thing})

    def test_in_use(self):
        shelf = filled()
        shelf.claim(("same", "other", "other"))
        self.assert_refused(shelf, shelf.put, ["ring", CURL], ["name", "thing"], errors.InUse, {"index": 0})
        self.assert_refused(shelf, shelf.put, ["knot", RING], ["name", "thing"], errors.InUse, {"index": 1})
        for name, index in (("ring", 0), ("knot", 1), ("other", 3)):
            self.assert_refused(shelf, shelf.drop, [name], ["name"], errors.InUse, {"index": index})
        shelf.lift(0)
        self.assert_refused(shelf, shelf.drop, ["ring"], ["name"], errors.InUse, {"index": 1})
        shelf.lift(1)
        shelf.drop("ring")

    def test_turnings_and_words_are_no_names(self):
        shelf = shelf_with({"o": "aa", "x": "aa", "flat": "aa"})
        shelf.claim(("rounds", "x", "o", 2))
        shelf.drop("o")
        shelf.claim(("flat", "x"))
        shelf.drop("flat")
        self.assert_refused(shelf, shelf.drop, ["x"], ["name"], errors.InUse, {"index": 0})

    def test_names_that_are_none_of_the_shelf(self):
        shelf = filled()
        for name in no_strings_or_integers() + some_strings() + some_integers() + ["rin", "rings", "Ring", CURL, "ring "]:
            self.assert_refused(shelf, shelf.thing, [name], ["name"], errors.UnknownName, {"given": name})
            self.assert_refused(shelf, shelf.drop, [name], ["name"], errors.UnknownName, {"given": name})

    def test_claims(self):
        shelf = filled()
        wrong = [
            (), ("flat",), ("flat", "ring", 0), ("Flat", "ring"), ("not flat",), ("notflat", "ring"), ("same", "ring"), ("same", "ring", "ring", "ring"),
            ("one web", "ring"), ("handles", "ring"), ("handles", "ring", -1), ("handles", "ring", 11), ("handles", "ring", True),
            ("handles", "ring", False), ("handles", "ring", LikeOne()), ("handles", "ring", "1"), ("handles", "ring", None), ("handles", "ring", (1,)),
            ("turns", "knot", 1001), ("turns", "knot", -1001), ("turns", "knot", EqualToAll()), ("turns", "knot"), ("turns", "knot", 2, 2),
            ("three ways", "knot", 10 ** 59), ("three ways", "knot", Touchy()), ("rounds", "ring", "ooo"), ("rounds", "ring", 2), ("rounds", "ring", "ooo", 0),
            ("rounds", "ring", "ooo", 21), ("rounds", "ring", "ooo", True), ("rounds", "ring", "oo+", 2), ("rounds", "ring", "o o", 2), ("rounds", "ring", None, 2),
            ("rounds", "ring", ("o", "o", "o"), 2), ("rounds", "ring", b"ooo", 2), ("rounds", "ring", 2, "ooo"), ("rounds", "none", "y", 2), (Touchy(),), (Touchy(), "ring"),
            (EqualToAll(), "ring"), (b"flat", "ring"), (("flat",), "ring"), (None, "ring"), ("handles", Touchy(), 11), ["flat", "ring"], "flat ring", {"flat": "ring"},
            ("all handles", "ring", 0), ("unlike", "ring", "ring"), ("apart", "knot", "knot"), ("same way", "knot", 1), ("flat", "ring", "ring"), ("flat", ) * 9,
        ]
        for claim in [value for value in no_strings_or_integers() + some_strings() + some_integers() if not isinstance(value, tuple)] + wrong:
            self.assert_refused(shelf, shelf.claim, [claim], ["claim"], errors.InvalidClaim, {"given": claim})

    def test_names_in_claims(self):
        shelf = filled()
        for name in no_strings_or_integers() + some_strings() + ["rings", "Ring", "", RING, CURL, ("ring",), Touchy(), EqualToAll()]:
            claims = [("flat", name), ("not flat", name), ("same", name, "none"), ("same", "ring", name), ("same", "knot", name), ("one web", name, name)]
            claims += [("one web", "ring", name), ("handles", name, 0), ("turns", name, 2), ("three ways", name, -1000), ("rounds", name, "", 20)]
            for claim in claims:
                self.assert_refused(shelf, shelf.claim, [claim], ["claim"], errors.UnknownName, {"given": name})

    def test_things_of_the_other_sort_in_claims(self):
        shelf = filled()
        told_wrong = [
            (("flat", "knot"), "knot"), (("not flat", "knot"), "knot"), (("same", "ring", "knot"), "knot"), (("same", "knot", "ring"), "ring"),
            (("one web", "ring", "knot"), "knot"), (("one web", "knot", "none"), "knot"), (("one web", "none", "knot"), "none"), (("handles", "knot", 0), "knot"),
            (("turns", "ring", 2), "ring"), (("three ways", "ring", 0), "ring"), (("rounds", "knot", "o", 2), "knot"), (("same", "none", "knot"), "none"),
        ]
        for claim, name in told_wrong:
            self.assert_refused(shelf, shelf.claim, [claim], ["claim"], errors.UnknownName, {"given": name})

    def test_indexes(self):
        shelf = filled()
        for index in no_strings_or_integers() + some_strings() + [3, 4, -1, -3, 10 ** 59, "0", ("flat", "ring")]:
            self.assert_refused(shelf, shelf.lift, [index], ["index"], errors.InvalidIndex, {"given": index})
        self.assert_refused(Shelf(), Shelf().lift, [0], ["index"], errors.InvalidIndex, {"given": 0})

    def test_broken(self):
        shelf = filled()
        self.assert_refused(shelf, shelf.put, ["ring", "abab"], ["name", "thing"], errors.Broken, {"index": 0, "shown": "a"})
        self.assert_refused(shelf, shelf.put, ["knot", EIGHT], ["name", "thing"], errors.Broken, {"index": 1, "shown": 0})
        self.assert_refused(shelf, shelf.claim, [("handles", "ring", 1)], ["claim"], errors.Broken, {"index": 3, "shown": 0})
        self.assert_refused(shelf, shelf.claim, [("one web", "ring", "other")], ["claim"], errors.Broken, {"index": 3, "shown": None})

    def test_nothing_to_undo(self):
        shelf = Shelf()
        self.assert_refused(shelf, shelf.undo, [], [], errors.NothingToUndo, {})


class Trials(unittest.TestCase):
    def setUp(self):
        self.shelf = filled()
        self.before = told(self.shelf)

    def change(self):
        self.shelf.put("knot", mirror(walked_back(CURL)))
        self.shelf.put("new", begun(RING, 1))
        self.shelf.claim(("same", "new", "ring"))
        self.shelf.lift(0)
        for _ in range(8):
            self.shelf.undo()
        self.shelf.drop("knot")
        return told(self.shelf)

    def test_as_it_was(self):
        with self.shelf.trial():
            self.assertEqual(told(self.shelf), self.before)
            self.assertNotEqual(self.change(), self.before)
        self.assertEqual(told(self.shelf), self.before)
        for _ in range(6):
            self.shelf.undo()
        self.assertEqual(told(self.shelf), told(Shelf()))

    def test_errors_pass(self):
        for kind in (KeyError, errors.NothingToUndo, ZeroDivisionError):
            with self.assertRaises(kind):
                with self.shelf.trial():
                    self.change()
                    raise kind()
            self.assertEqual(told(self.shelf), self.before)
        with self.assertRaises(errors.Broken):
            with self.shelf.trial():
                self.shelf.lift(1)
                self.shelf.put("ring", "abab")
        self.assertEqual(told(self.shelf), self.before)

    def test_within_one_another(self):
        trial = self.shelf.trial()
        with trial:
            self.shelf.put("new", "aa")
            middle = told(self.shelf)
            with trial:
                self.change()
            self.assertEqual(told(self.shelf), middle)
            with self.shelf.trial():
                self.shelf.drop("new")
            self.assertEqual(told(self.shelf), middle)
            self.assertIsInstance(raised(self.shelf.tried, [lambda shelf: shelf.drop("ring")]), errors.InUse)
            self.assertEqual(told(self.shelf), middle)
        self.assertEqual(told(self.shelf), self.before)
        self.shelf.put("new", "aa")
        after = told(self.shelf)
        with trial:
            self.change()
        self.assertEqual(told(self.shelf), after)

    def test_tried(self):
        shelves = []
        self.assertEqual(self.shelf.tried(lambda shelf: (shelves.append(shelf), self.change())[1])[0], ("ring",))
        self.assertIs(shelves[0], self.shelf)
        self.assertEqual(told(self.shelf), self.before)
        self.assertIsNone(self.shelf.tried(action=lambda shelf: shelf.lift(0)))
        self.assertEqual(told(self.shelf), self.before)


class Equality(unittest.TestCase):
    def test_just_itself(self):
        shelf, other = Shelf(), Shelf()
        self.assertTrue(shelf == shelf and not shelf != shelf)
        self.assertTrue(shelf != other and not shelf == other)
        for value in no_strings_or_integers() + [(), Plain(), Touchy(), EqualToAll()]:
            self.assertIs(shelf == value, False)
            self.assertIs(shelf != value, True)
        self.assertTrue(shelf)
