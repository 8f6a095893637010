"""The examples of the document, as they stand there, one after the other in one and the same room of names."""

import doctest
import re
import unittest

from tests.kinds import raised

ROWS = """
>>> from selfcrossed.rows import backwards, begun, count_rows, is_row, is_same, letters, lines_of, named, nth_row, places, plain, ways_to_itself
>>> [is_row("abab"), is_row("aab"), letters("cbcb"), places("cbcb", "b"), begun("abacbc", 2), backwards("aabb"), named("cbcb", "ab"), plain("cbacab")]
[True, False, 'bc', (1, 3), 'acbcab', 'bbaa', 'baba', 'abacbc']
>>> [is_same("abba", "aabb"), ways_to_itself("abcabc"), ways_to_itself("aabb"), count_rows(3), nth_row(2, 1), lines_of(2), lines_of(3)]
[True, 12, 4, 15, 'abab', ('aabb', 'abab'), ('aabbcc', 'aabcbc', 'aabccb', 'abacbc', 'abcabc')]
"""
LINKS = """
>>> from selfcrossed.links import alike_rows, are_linked, between, bunches, hang_alike, linked_with, links, put_in, rank, table
>>> [are_linked("abab", "a", "b"), links("abacbc"), bunches("aabcbc"), linked_with("abcabc", "a"), between("abacbc", "b"), put_in("aa", 1, "baab"), table("abacbc"), rank("abacbc")]
[True, ('ab', 'bc'), ('a', 'bc'), 'bc', 'ac', 'abccba', ((0, 1, 0), (1, 0, 1), (0, 1, 0)), 2]
>>> [hang_alike("aabb", "abba"), hang_alike("abab", "aabb"), alike_rows("aabb")]
[True, False, ('aabb',)]
"""
FLAT = """
>>> from selfcrossed.flat import flat_by_links, flat_sides, handles, is_flat, regions, why_not
>>> [regions("aa", "+"), handles("abab", "++"), handles("abcabc", "+-+"), is_flat("abcabc"), flat_sides("abcabc"), flat_sides("abba"), flat_by_links("abacbc")]
[((-2, 0), (-1,), (1,)), 1, 0, True, ('+-+', '-+-'), ('++', '+-', '-+', '--'), False]
>>> [why_not("abab"), why_not("abcabdecde"), why_not("aabb"), regions("abab", "+-")]
['a', 'ad', None, ((-4, -1, -2, 3, 2, 1), (-3, 0))]
"""
HANDLES = """
>>> from selfcrossed.handles import first_sides, greatest_handles, handles_spread, least_handles, one_region, two_shades
>>> [least_handles("abab"), greatest_handles("abacbc"), handles_spread("abcabc"), handles_spread("abacbc"), first_sides("abcabc", 0), first_sides("abab", 0), one_region("abab"), two_shades("aa", "+"), two_shades("abab", "++")]
[1, 2, (2, 6), (0, 4, 4), '+-+', None, None, True, False]
"""
DRAWINGS = """
>>> from selfcrossed.drawings import Drawing, are_same, begun_at, count_drawings, drawings_of, is_own_mirror, mirror, plain_drawing, turned_out, walked_back
>>> eight = Drawing("aa", "+", 0)
>>> curl = Drawing("aa", "+", -1)
>>> [eight.text, eight.outside, curl.text, curl.regions, Drawing.read("aa + -1") == curl, walked_back(curl).text, plain_drawing(walked_back(curl)).text, are_same(eight, mirror(eight)), is_own_mirror(curl)]
['aa + -2', (-2, 0), 'aa + -1', ((-2, 0), (-1,), (1,)), True, 'aa - 0', 'aa + -1', True, True]
>>> [turned_out(curl, (1,)).text, begun_at(curl, 1).text, count_drawings(1), count_drawings(2), len(drawings_of("abcabc")), drawings_of("abcabc")[1].text]
['aa + 1', 'aa - -2', 2, 5, 2, 'abcabc +-+ -6']
"""
NUMBERS = """
>>> from selfcrossed.numbers import area, letter_numbers, least_same_way, most_turns, on_a_ball, opposite_way, outsides_with, region_numbers, rings, same_way, signs, standard, three_ways, turns, turns_spread, twice_mean
>>> three = Drawing("abcabc", "+-+", -5)
>>> [region_numbers(curl), letter_numbers(curl), signs(curl, 0), signs(curl, 1), twice_mean(curl, 0), twice_mean(curl, 1), turns(curl), same_way(curl), opposite_way(curl), three_ways(curl), on_a_ball(curl)]
[(1, 0, 2), (1,), (1,), (-1,), 1, 3, 2, -2, -3, 1, 0]
>>> [region_numbers(three), turns(three), same_way(three), opposite_way(three), three_ways(three), on_a_ball(three), area(curl, (1, 5, 2)), rings(curl), turns(eight), three_ways(eight)]
[(1, 0, 1, 1, 2), 2, 0, -3, 1, 2, 5, ((0,), (1,)), 0, 0]
>>> [most_turns("aa"), least_same_way("aa"), turns_spread("aa"), outsides_with(curl, 2), standard(0).text, standard(3).text, standard(-3).text]
[2, -2, ((-2, 2), (0, 2), (2, 2)), ((-1,),), 'aa + -2', 'aabb +- -1', 'aabb ++ 1']
"""
MOVES = """
>>> from selfcrossed.moves import back, by_threes, changes_of, done, fewest_moves, ins, is_move, least_moves_of, led, loosened, outs, without_loops
>>> [done(curl, ("loop", 0, "l")).text, changes_of(curl, ("loop", 0, "l")), done(curl, ("pair", 0, -2, 0)).text, changes_of(curl, ("pair", 0, -2, 0)), is_move(curl, ("no loop", "a")), outs(eight)]
['abba +- -3', (1, 1, -2, -3, 1), 'abcabc +-+ -5', (2, 0, 2, 0, 0), False, ()]
>>> [led(curl, (("loop", 0, "l"), ("no loop", "b"))) == curl, least_moves_of(curl, three), least_moves_of(curl, eight), fewest_moves(curl, three, 3), without_loops(curl, three, 3), without_loops(curl, eight, 3)]
[True, (1, 0, 0), None, 1, 1, None]
"""
TURNINGS = """
>>> from selfcrossed.turnings import all_against, all_along, count_rounds, count_tours, one_web, rounds, rounds_by_table, tour, tours, tours_along, turnings_between
>>> [count_rounds("abcabc", "ooo"), rounds("abcabc", "ooo"), rounds_by_table("abcabc", "xxx"), tour("abcabc", "oo="), tour("abcabc", "ooo"), tours("abcabc"), count_tours("abcabc"), tours_along("abcabc")]
[2, ((-6, -2, -4), (-5, -1, -3)), 3, 'cbacba', None, ('abacbc', 'abcabc'), 16, 4]
>>> [one_web("abcabc", "abacbc"), turnings_between("aa", "aabb"), all_against("abcabc"), all_along("abcabc")]
[True, None, 3, 2]
"""
SPREADS = """
>>> from selfcrossed.spreads import chance_of_one, first_greatest, greatest_rounds, spread_along, spread_in_all, turned_at, value_at, without
>>> [spread_along("abcabc"), spread_in_all("abcabc"), value_at((4, 4), -2), turned_at("abacbc", "b", "c"), without("abcabc", "b"), greatest_rounds("aabb"), first_greatest("aabb"), chance_of_one("aa"), spread_along("aabb")]
[(4, 4), (16, 10, 1), -4, 'abcbac', 'acac', 3, 'oo', (2, 3), (1, 2, 1)]
"""
PARTS = """
>>> from selfcrossed.parts import count_flat_parts, crossed_once, exchanges, fewest_out, flat_parts, handles_without, ways_in
>>> [fewest_out("abab"), flat_parts("abab"), count_flat_parts("abab"), handles_without("abab"), exchanges("abab"), ways_in(eight), crossed_once("aa"), fewest_out("aabb")]
['a', ('a', 'b'), 2, (0, 0), (0, 1, 2, 3), ((0, 0), (1, 1)), ('aabb',), '']
"""
LINES = """
>>> from selfcrossed.lines import are_even, are_flat, are_same_lines, flat_lines_sides, joined, least_lines_handles, lines_handles, parted, plain_lines, shared
>>> [are_flat(("ab", "ab")), flat_lines_sides(("ab", "ab")), lines_handles(("ab", "ab"), "++"), least_lines_handles(("a", "a")), are_even(("a", "a")), shared(("ab", "ab"), 0, 1), joined(("ab", "ab"), "a"), parted(("abab",), "a"), plain_lines(("ba", "ab")), are_same_lines(("aab", "b"), ("b", "baa"))]
[True, ('+-', '-+'), 1, 1, False, 'ab', ('bb',), ('b', 'b'), ('ab', 'ab'), True]
"""
DIMS = """
>>> from selfcrossed.dims import best_looks, count_fillings, fillings, fillings_like, flat_fillings, flat_word, handles_of, hidden, is_dim, looks_needed, never_links, nth_filling, sure_links, sure_pairs, turns_of
>>> [is_dim("ab??"), count_fillings("ab??"), fillings("ab??"), nth_filling("??", 0), flat_fillings("ab??"), flat_word("ab??"), flat_word("a?b?"), handles_of("ab??"), sure_links("a?b?"), never_links("a?b?")]
[True, 2, ('abab', 'abba'), 'aa', 1, 'open', 'sure', ((0, 1), (1, 1)), (), ('ab',)]
>>> [turns_of("??"), sure_pairs("ab??"), looks_needed("ab??"), best_looks("ab??"), hidden("aabb", (1, 3)), fillings_like("ab??", "aabb")]
[(-2, 0, 2), ((0, 3), (1, 2)), 1, (2, 3), 'a?b?', 1]
"""
BENCHES = """
>>> from selfcrossed.benches import Bench
>>> bench = Bench(curl)
>>> [bench.move(("loop", 0, "l")), bench.play((("loop", 0, "r"), ("no loop", "b"))), bench.drawing.text, bench.turns, bench.changes, len(bench.deeds), bench.undo(), bench.drawing.text, bench.first == curl]
[None, None, 'acca ++ -3', 1, 2, 3, None, 'abba +- -3', True]
"""
SHELVES = """
>>> from selfcrossed.shelves import Shelf
>>> shelf = Shelf()
>>> [shelf.put("ring", "abcabc"), shelf.put("knot", curl), shelf.claim(("flat", "ring")), shelf.claim(("turns", "knot", 2)), shelf.claim(("rounds", "ring", "ooo", 2)), shelf.names, len(shelf.claims), shelf.changes, "ring" in shelf]
[None, None, None, None, None, ('knot', 'ring'), 3, 5, True]
>>> shelf.put("ring", "abab")
raises Broken(index=0, shown='a')
>>> shelf.claim(("handles", "ring", 1))
raises Broken(index=3, shown=0)
"""
CONSOLE = """
>>> from selfcrossed.console import Console
>>> console = Console()
>>> [console.run("row k abab"), console.run("drawing d aa + -1"), console.run("flat k"), console.run("why k"), console.run("handles k"), console.run("turns d"), console.run("regions d"), console.run("rounds k xx"), console.run("claim not flat k"), console.run("names"), console.run("without k b")]
['ok', 'ok', 'no', 'a', '1', '2', '1 0 2', '2', 'ok', 'd k', 'aa']
"""
CHECKER = """
>>> from selfcrossed.checker import accepts
>>> [accepts(("flat", "aabb"), "++"), accepts(("not flat", "abab"), "a"), accepts(("flat", "abab"), "++"), accepts(("rounds", "abcabc", "ooo", 2), ((-6, -2, -4), (-5, -1, -3))), accepts(("turns", "abcabc +-+ -5", 2), (1, 0, 1, 1, 2)), accepts(("same", "abba", "aabb"), (1, 1, "ba")), accepts(("led", "aa + -1", "abcabc +-+ -5"), (("pair", 0, -2, 0),))]
[True, True, False, True, True, True, True]
"""
CERTIFICATES = """
>>> from selfcrossed.certificates import certify_apart, certify_flat, certify_handles, certify_least, certify_led, certify_lines, certify_out, certify_rounds, certify_same, certify_three_ways, certify_turns, certify_web
>>> [certify_flat("abab")[0], certify_handles("abab"), certify_turns(curl), certify_three_ways(curl), certify_apart(curl, eight), certify_rounds("aa", "o"), certify_out("abab")[0]]
[('not flat', 'abab'), (('all handles', 'abab', 1), ()), (('turns', 'aa + -1', 2), (1, 0, 2)), (('three ways', 'aa + -1', 1), (1, 0, 2)), (('apart', 'aa + -1', 'aa + -2'), ()), (('rounds', 'aa', 'o', 2), ((-2,), (-1,))), ('fewest out', 'abab', 1)]
>>> [certify_least(curl, three)[0], accepts(certify_least(curl, three)[0], certify_least(curl, three)[1]), certify_same("aabb", "abab")[0][0], certify_web("aa", "aabb"), certify_lines(("a", "a")), certify_led(curl, ())[0]]
[('at least', 'aa + -1', 'abcabc +-+ -5', 1), True, 'unlike', None, None, ('led', 'aa + -1', 'aa + -1')]
"""
ALL = {
    "rows": ROWS, "links": LINKS, "flat": FLAT, "handles": HANDLES, "drawings": DRAWINGS, "numbers": NUMBERS,
    "moves": MOVES, "turnings": TURNINGS, "spreads": SPREADS, "parts": PARTS, "lines": LINES, "dims": DIMS,
    "benches": BENCHES, "shelves": SHELVES, "console": CONSOLE, "checker": CHECKER, "certificates": CERTIFICATES,
}


class Told:
    """An error, shown as the document shows it."""

    def __init__(self, action):
        self.error = raised(action, [])

    def __repr__(self):
        kept = ", ".join([f"{name}={worth!r}" for name, worth in vars(self.error).items()])
        return f"raises {self.error.__class__.__name__}({kept})"


class Examples(unittest.TestCase):
    def test_all(self):
        known = {"Told": Told}
        for name, text in ALL.items():
            with self.subTest(name):
                text = re.sub(r">>> (.*)\nraises ", r">>> Told(lambda: \1)\nraises ", text)
                test = doctest.DocTestParser().get_doctest(text, known, name, None, 0)
                self.assertGreater(len(test.examples), 1)
                told = []
                runner = doctest.DocTestRunner(verbose=False)
                runner.run(test, out=told.append, clear_globs=False)
                self.assertEqual("".join(told), "")
                known.update(test.globs)
