"""What the interface says of the console: each command answers what the calls answer, or raises what they raise."""

import unittest

from selfcrossed import errors
from selfcrossed.console import Console
from selfcrossed.drawings import Drawing
from selfcrossed.flat import is_flat, why_not
from selfcrossed.handles import least_handles
from selfcrossed.numbers import opposite_way, region_numbers, same_way, three_ways, turns
from selfcrossed.rows import plain
from selfcrossed.shelves import Shelf
from selfcrossed.spreads import without
from selfcrossed.turnings import count_rounds
from tests.few import few_drawings, few_rows
from tests.kinds import EqualToAll, Touchy, no_strings_or_integers, raised, some_integers, some_strings
from tests.pictures import Numbers
from tests.shelved import Model
from tests.test_shelves import chosen, told


def filled():
    console = Console()
    for command in ("row ring abcabc", "row pair abab", "drawing curl aa + -1", "drawing three abcabc +-+ -5", "claim flat ring", "claim turns curl 2"):
        console.run(command)
    return console


class Asked(unittest.TestCase):
    def test_rows(self):
        console = Console()
        for row in few_rows(3) + ["abcdefghabcdefgh", "hhaabbccddeeffgg"]:
            self.assertEqual(console.run(f"row a {row}"), "ok")
            self.assertEqual(console.run("show a"), row)
            self.assertEqual(console.run("flat a"), "yes" if is_flat(row) else "no")
            self.assertEqual(console.run("why a"), why_not(row) or "-")
            self.assertEqual(console.run("plain a"), plain(row))
            self.assertEqual(console.run("handles a"), str(least_handles(row)))
            for sign in "=ox":
                turnings = sign * (len(row) // 2)
                self.assertEqual(console.run(f"rounds a {turnings}"), str(count_rounds(row, turnings)))
            for letter in sorted(set(row)):
                if len(row) > 2:
                    self.assertEqual(console.run(f"without a {letter}"), without(row, letter))

    def test_drawings(self):
        console = Console()
        for drawing in few_drawings(2) + few_drawings(3)[::9]:
            self.assertEqual(console.run(f"drawing knot {drawing.text}"), "ok")
            self.assertEqual(console.run("show knot"), drawing.text)
            self.assertEqual(console.run("turns knot"), str(turns(drawing)))
            self.assertEqual(console.run("same way knot"), str(same_way(drawing)))
            self.assertEqual(console.run("opposite way knot"), str(opposite_way(drawing)))
            self.assertEqual(console.run("three ways knot"), str(three_ways(drawing)))
            self.assertEqual(console.run("regions knot"), " ".join([str(number) for number in region_numbers(drawing)]))

    def test_names_and_claims(self):
        console = Console()
        self.assertEqual([console.run("names"), console.run("claims")], ["", "0"])
        console = filled()
        self.assertEqual([console.run("names"), console.run("claims")], ["curl pair ring three", "2"])
        self.assertEqual(console.shelf.claims, (("flat", "ring"), ("turns", "curl", 2)))
        self.assertIsInstance(console.shelf, Shelf)
        self.assertIs(console.shelf, console.shelf)

    def test_changes(self):
        console = filled()
        told_commands = [
            ("claim not flat pair", ("not flat", "pair")), ("claim same ring ring", ("same", "ring", "ring")), ("claim one web ring ring", ("one web", "ring", "ring")),
            ("claim handles pair 1", ("handles", "pair", 1)), ("claim turns curl 2", ("turns", "curl", 2)), ("claim three ways curl 1", ("three ways", "curl", 1)),
            ("claim rounds ring ooo 2", ("rounds", "ring", "ooo", 2)), ("claim flat ring", ("flat", "ring")), ("claim same curl curl", ("same", "curl", "curl")),
            ("claim three ways three 1", ("three ways", "three", 1)),
        ]
        for command, claim in told_commands:
            self.assertEqual(console.run(command), "ok")
            self.assertEqual(console.shelf.claims[-1], claim)
        many = len(console.shelf.claims)
        self.assertEqual([console.run("lift 0"), console.run("lift 3"), len(console.shelf.claims)], ["ok", "ok", many - 2])
        self.assertEqual([console.run("undo"), len(console.shelf.claims)], ["ok", many - 1])
        self.assertEqual([console.run("row new aa"), console.run("drop new"), console.run("undo"), console.run("show new")], ["ok", "ok", "ok", "aa"])

    def test_the_shelf_may_be_led_besides(self):
        console = Console()
        console.shelf.put("a", "abab")
        self.assertEqual(console.run("flat a"), "no")
        with console.shelf.trial():
            console.run("drop a")
            self.assertEqual(console.run("names"), "")
        self.assertEqual(console.run("names"), "a")

    def test_words_of_commands_are_names_too(self):
        console = Console()
        for name in ("flat", "way", "names", "claim", "not", "web", "row", "undo"):
            console.run(f"row {name} aa")
        commands = {
            "flat flat": "yes", "show names": "aa", "claim flat flat": "ok", "claim not flat not": None, "claim same way way": "ok", "claim one web web web": "ok",
            "same way way": None, "plain claim": "aa", "claim flat claim": "ok", "drop undo": "ok", "without not a": None, "show way": "aa",
        }
        for command, answer in commands.items():
            if answer is None:
                self.assertNotIsInstance(raised(console.run, [command]), (errors.InvalidCommand, type(None)))
            else:
                self.assertEqual(console.run(command), answer)

    def test_by_name(self):
        console = Console()
        self.assertEqual([console.run(command="row a aa"), console.run(command="names")], ["ok", "a"])


class Refused(unittest.TestCase):
    def assert_refused(self, console, command, kind, attributes):
        before = told(console.shelf)
        for error in (raised(console.run, [command]), raised(console.run, [command], ["command"])):
            self.assertTrue(error.__class__ is kind, f"{command!r:.80}: {error.__class__} instead of {kind}")
            self.assertEqual(list(vars(error)), list(attributes))
            for name, worth in attributes.items():
                kept = getattr(error, name)
                self.assertTrue(kept is worth or (isinstance(worth, (str, int, tuple)) and kept.__class__ is worth.__class__ and kept == worth))
            self.assertEqual(told(console.shelf), before)

    def assert_no_command(self, console, command):
        error = raised(console.run, [command])
        shown = repr(command)[:80] if isinstance(command, str) else command.__class__
        self.assertTrue(error.__class__ is errors.InvalidCommand, f"{shown}: {error.__class__}")
        self.assertTrue(error.given is command)

    def test_other_values(self):
        console = filled()
        for value in no_strings_or_integers() + some_strings() + some_integers() + [b"names", ["names"], ("names",)]:
            self.assert_no_command(console, value)

    def test_what_is_near_to_a_command(self):
        console = filled()
        rights = [
            "row a aa", "drawing a aa + -1", "drop pair", "undo", "lift 0", "show ring", "names", "claims", "flat ring", "why ring", "plain ring",
            "handles ring", "rounds ring ooo", "without ring a", "turns curl", "same way curl", "opposite way curl", "three ways curl", "regions curl",
            "claim flat ring", "claim not flat pair", "claim same ring ring", "claim one web ring ring", "claim handles ring 0", "claim turns curl 2",
            "claim three ways curl 1", "claim rounds ring ooo 2",
        ]
        # Without a word of its own a right one may be another right one.
        known = {*rights, "claim flat pair"}
        for right in rights:
            words = right.split(" ")
            near = [" " + right, right + " ", right.replace(" ", "  "), right.upper(), right + " a b c d e", right.capitalize(), "\n" + right]
            # What is no name and no number may be any word.
            near += [right + "\n"] if words[0] not in ("row", "drawing", "without", "rounds") else []
            for index in range(len(words)):
                near.append(" ".join(words[:index] + words[index + 1:]))
                near.append(" ".join(words[:index + 1] + words[index:]))
                near.append(" ".join(words[:index] + [""] + words[index:]))
                near.append(" ".join(words[:index] + [words[index] + "s"] + words[index + 1:]) if index == 0 else "")
            # The name is wrong.
            if len(words) > 1 and words[0] != "lift":
                at = {"claim not": 3, "claim one": 3, "claim three": 3, "same way": 2, "opposite way": 2, "three ways": 2}.get(" ".join(words[:2]), 2 if words[0] == "claim" else 1)
                near += [" ".join(words[:at] + [name] + words[at + 1:]) for name in ("abcdefghi", "Ring", "ring1", "ri-ng", "rin\ng", "1", "?", "A")]
            for command in near:
                if command not in known:
                    self.assert_no_command(console, command)
        for right in rights:
            other = filled()
            self.assertIsInstance(other.run(right), str)

    def test_forms_that_are_none(self):
        console = filled()
        wrong = [
            "row", "row a", "row a aa bb", "row aa", "drawing a aa + -1 0", "drawing a aa +", "drawing a", "drop", "drop a b", "undo 1", "undo undo", "lift",
            "lift 0 0", "lift a", "lift 00", "lift 01", "lift -0", "lift +1", "lift 1.0", "lift --1", "lift - 1", "lift 1_0", "lift -", "lift 0x1", "lift 1\n",
            "lift \u0661", "show", "names a", "claims 0", "claim", "claim ring", "claim flat", "claim flat ring 0", "claim not", "claim not flat", "claim notflat ring",
            "claim not ring", "claim same ring", "claim web ring ring", "claim one ring ring", "claim oneweb ring ring", "claim handles ring", "claim handles ring a",
            "claim handles 0 ring", "claim handles ring 00", "claim handles ring -0", "claim turns curl 02", "claim turns curl +2", "claim three curl 1",
            "claim threeways curl 1", "claim rounds ring 2", "claim rounds ring ooo", "claim rounds ring 2 ooo", "claim rounds ooo ring two", "claim same way curl 1",
            "claim unlike ring ring", "claim claim flat ring", "flat", "flat ring ring", "is flat ring", "why", "plain", "rounds ring", "without ring", "without",
            "same curl", "same way", "sameway curl", "way same curl", "opposite curl", "three curl", "three way curl", "regions", "regions curl curl", "turn curl",
            "Names", "NAMES", "put a aa", "claim opposite way curl 1", "claim Flat ring", "ring flat", "names names", " ", "", "one web ring ring", "not flat pair",
        ]
        for command in wrong:
            self.assert_no_command(console, command)

    def test_rows_and_drawings(self):
        console = filled()
        for row in ("a", "aab", "abcdefghiabcdefghi", "AA", "aa+", "aa\n", "0", "x" * 7990):
            self.assert_refused(console, f"row a {row}", errors.InvalidText, {"given": row})
            # The text is asked ahead of what is there already.
            self.assert_refused(console, f"row curl {row}", errors.InvalidText, {"given": row})
        for text in ("aa + 0", "aa + -3", "abab ++ 3", "aab + 0", "aa ++ -1", "aa + -01", "aa + x", "aa + +1", "aa + -1\n", "aa - -1", "a a a"):
            if text != "aa - -1":
                self.assert_refused(console, f"drawing a {text}", errors.InvalidText, {"given": text})
                self.assert_refused(console, f"drawing ring {text}", errors.InvalidText, {"given": text})
        ten = Drawing("aabbccddeeffgghhiijj", "+" * 10, 1)
        self.assertEqual([console.run(f"drawing ten {ten.text}"), console.run("show ten"), console.run("row eight abcdefghabcdefgh")], ["ok", ten.text, "ok"])

    def test_errors_of_the_calls(self):
        console = filled()
        self.assert_refused(console, "row curl aa", errors.InUse, {"index": 1})
        self.assert_refused(console, "drawing ring aa + -1", errors.InUse, {"index": 0})
        self.assert_refused(console, "row ring abab", errors.Broken, {"index": 0, "shown": "a"})
        self.assert_refused(console, "drawing curl aa + -2", errors.Broken, {"index": 1, "shown": 0})
        self.assert_refused(console, "drop ring", errors.InUse, {"index": 0})
        self.assert_refused(console, "claim handles ring 1", errors.Broken, {"index": 2, "shown": 0})
        self.assert_refused(console, "claim handles ring 11", errors.InvalidClaim, {"given": ("handles", "ring", 11)})
        self.assert_refused(console, "claim handles none -1", errors.InvalidClaim, {"given": ("handles", "none", -1)})
        self.assert_refused(console, "claim rounds ring abc 2", errors.InvalidClaim, {"given": ("rounds", "ring", "abc", 2)})
        self.assert_refused(console, "claim rounds ring oo 2", errors.Broken, {"index": 2, "shown": None})
        self.assert_refused(console, "claim turns curl 1001", errors.InvalidClaim, {"given": ("turns", "curl", 1001)})
        self.assert_refused(console, "claim three ways curl -1", errors.Broken, {"index": 2, "shown": 1})
        self.assert_refused(console, "lift 2", errors.InvalidIndex, {"given": 2})
        self.assert_refused(console, "lift -1", errors.InvalidIndex, {"given": -1})
        self.assert_refused(console, "lift " + "9" * 7990, errors.InvalidIndex, {"given": 10 ** 7990 - 1})
        self.assert_refused(console, "rounds ring oo", errors.InvalidTurnings, {"given": "oo"})
        self.assert_refused(console, "rounds ring abc", errors.InvalidTurnings, {"given": "abc"})
        self.assert_refused(console, "without ring d", errors.InvalidLetters, {"index": 0})
        self.assert_refused(console, "without ring aa", errors.InvalidLetters, {"index": 1})
        self.assert_refused(console, "without ring abc", errors.InvalidLetters, {"index": None})
        self.assert_refused(Console(), "undo", errors.NothingToUndo, {})

    def test_names(self):
        console = filled()
        for word in ("drop", "show", "flat", "why", "plain", "handles", "turns", "same way", "opposite way", "three ways", "regions", "claim flat", "claim not flat"):
            self.assert_refused(console, f"{word} none", errors.UnknownName, {"given": "none"})
        for command in ("flat", "why", "plain", "handles", "claim flat", "claim not flat", "claim same ring", "claim one web ring"):
            self.assert_refused(console, f"{command} curl", errors.UnknownName, {"given": "curl"})
        for command in ("turns", "same way", "opposite way", "three ways", "regions", "claim same curl"):
            self.assert_refused(console, f"{command} ring", errors.UnknownName, {"given": "ring"})
        for command in ("rounds curl o", "rounds curl y", "without curl z", "claim rounds curl o 2", "claim handles curl 0"):
            self.assert_refused(console, command, errors.UnknownName, {"given": "curl"})
        for command in ("rounds none ooo", "without none z", "claim turns none 1"):
            self.assert_refused(console, command, errors.UnknownName, {"given": "none"})


class LikeTheCalls(unittest.TestCase):
    def test_whatever_is_done(self):
        numbers = Numbers(9)
        console, model = Console(), Model()
        rows = ["aa", "abab", "abcabc", "aabb", "abacbc"]
        drawings = ["aa + -1", "aa + -2", "abcabc +-+ -5"]
        for _ in range(600):
            name, other, number = chosen("abc", numbers), chosen("abcd", numbers), numbers.below(4)
            row, text = chosen(rows, numbers), chosen(drawings, numbers)
            told_deeds = [
                (f"row {name} {row}", "put", [name, row]), (f"drawing {name} {text}", "put", [name, Drawing.read(text)]), (f"drop {other}", "drop", [other]),
                ("undo", "undo", []), (f"lift {number - 1}", "lift", [number - 1]), (f"claim flat {name}", "claim", [("flat", name)]),
                (f"claim not flat {name}", "claim", [("not flat", name)]), (f"claim same {name} {other}", "claim", [("same", name, other)]),
                (f"claim handles {name} {number}", "claim", [("handles", name, number)]), (f"claim turns {name} {number}", "claim", [("turns", name, number)]),
                (f"claim rounds {name} ooo {number + 1}", "claim", [("rounds", name, "ooo", number + 1)]), (f"row {name} {row}", "put", [name, row]),
            ]
            command, deed, arguments = chosen(told_deeds, numbers)
            due = getattr(model, deed)(*arguments)
            error = raised(console.run, [command])
            if due is None:
                self.assertIsNone(error)
            else:
                self.assertEqual([error.__class__, vars(error)], list(due))
            self.assertEqual(told(console.shelf), model.told())
            self.assertEqual([console.run("names"), console.run("claims")], [" ".join(model.told()[0]), str(len(model.told()[1]))])


class Equality(unittest.TestCase):
    def test_just_itself(self):
        console, other = Console(), Console()
        self.assertTrue(console == console and console != other and console)
        for value in no_strings_or_integers() + [console.shelf, Touchy(), EqualToAll()]:
            self.assertIs(console == value, False)
