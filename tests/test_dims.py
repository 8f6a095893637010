"""What [22] and the interface say of dim rows, gone through for many of them."""

import itertools
import unittest

from selfcrossed.dims import (
    best_looks, count_fillings, fillings, fillings_like, flat_fillings, flat_word, handles_of, hidden, is_dim, looks_needed,
    never_links, nth_filling, sure_links, sure_pairs, turns_of,
)
from selfcrossed.drawings import Drawing
from selfcrossed.flat import regions
from selfcrossed.handles import least_handles
from selfcrossed.links import are_linked
from selfcrossed.numbers import turns
from selfcrossed.rows import is_row, is_same, plain
from tests.dimmed import (
    few_dims, fillings_by_pairs, is_dim_by_counts, is_flat_by_corners, looks_by_hand,
)
from tests.few import few_rows, flat_choices, rows_with

# Four letters that stand once, and six places that were not seen: as many fillings as there can be.
MOST = "a?b?c?d???"
SIX_UNSEEN = "aa??????bb"


class Dim(unittest.TestCase):
    def test_is_dim(self):
        for size in range(1, 5):
            for signs in itertools.product("abj?kA", repeat=size):
                text = "".join(signs)
                self.assertIs(is_dim(text), is_dim_by_counts(text))
        for size in (5, 6):
            for signs in itertools.product("abc?", repeat=size):
                text = "".join(signs)
                self.assertIs(is_dim(text), is_dim_by_counts(text))

    def test_limits(self):
        right = ["??", "a?", "?j", "??????", "aabbccdd??", "abcd????", "abcde?????", MOST, SIX_UNSEEN, "ab??????ba", "aabbccdde?", "????????"[:6]]
        wrong = [
            "????????", "???????", "aa???????a", "aabbccddee??", "a", "?", "", "aa", "abab", "abc?", "abcd??", "aaa?", "aa?", "ab?", "abcdef??????",
            "aabbccdd?", "abcdefg???", "a???????", "k?", "A?", "a?\n", "a? ", " ?", "?" * 12, "?a" * 4000,
        ]
        self.assertEqual([text for text in right if not is_dim(text)], [])
        self.assertEqual([text for text in wrong if is_dim(text)], [])


class Fillings(unittest.TestCase):
    def test_all(self):
        for dim in few_dims():
            told = fillings_by_pairs(dim)
            self.assertEqual(fillings(dim), tuple(told))
            self.assertEqual(count_fillings(dim), len(told))
            for row in told:
                self.assertTrue(is_row(row))

    def test_each_one_by_its_index(self):
        for dim in few_dims()[::5] + [MOST]:
            told = fillings_by_pairs(dim)
            for index in range(0, len(told), 1 + len(told) // 7):
                self.assertEqual(nth_filling(dim, index), told[index])
            self.assertEqual(nth_filling(dim, len(told) - 1), told[-1])

    def test_numbers(self):
        told = {"??": 1, "????": 3, "??????": 15, MOST: 360, SIX_UNSEEN: 15, "a?": 1, "a???": 3, "ab??": 2, "abc???": 6, "abcd????": 24, "abcde?????": 120, "a?????": 15}
        self.assertEqual({dim: count_fillings(dim) for dim in told}, told)

    def test_further_letters(self):
        # The first ones that were not seen, in the order in which they first stand.
        self.assertEqual(fillings("????"), ("aabb", "abab", "abba"))
        self.assertEqual(fillings("a????a"), ("abbcca", "abcbca", "abccba"))
        self.assertEqual(fillings("?bb?"), ("abba",))
        self.assertEqual(fillings("?j??"), ("ajaj", "ajja", "jjaa"))
        self.assertEqual(fillings("c??a"), ("caca", "ccaa"))


class FlatOnes(unittest.TestCase):
    def test_how_many(self):
        for dim in few_dims():
            told = [is_flat_by_corners(row) for row in fillings_by_pairs(dim)]
            self.assertEqual(flat_fillings(dim), told.count(True))
            self.assertEqual(flat_word(dim), "sure" if all(told) else "open" if any(told) else "never")

    def test_words(self):
        self.assertEqual([flat_word("a?b?"), flat_word("?a?a"), flat_word("ab??")], ["sure", "never", "open"])

    def test_handles_of(self):
        for dim in few_dims()[::2]:
            told = [least_handles(row) for row in fillings_by_pairs(dim)]
            self.assertEqual(handles_of(dim), tuple([(number, told.count(number)) for number in sorted(set(told))]))
            self.assertEqual(sum([many for _, many in handles_of(dim)]), count_fillings(dim))

    def test_turns_of(self):
        for dim in few_dims()[::3]:
            told = set()
            for row in fillings_by_pairs(dim):
                for sides in flat_choices(row):
                    told |= {turns(Drawing(row, sides, region[0])) for region in regions(row, sides)}
            self.assertEqual(turns_of(dim), tuple(sorted(told)))

    def test_no_turns(self):
        self.assertEqual([turns_of("?a?a"), sure_pairs("?a?a")], [(), None])

    def test_sure_pairs(self):
        for dim in few_dims():
            flat = [row for row in fillings_by_pairs(dim) if is_flat_by_corners(row)]
            told = []
            for j, k in itertools.combinations(range(len(dim)), 2):
                if "?" in (dim[j], dim[k]) and all([row[j] == row[k] for row in flat]):
                    told.append((j, k))
            self.assertEqual(sure_pairs(dim), tuple(told) if flat else None)

    def test_nothing_may_be_sure_of_flat_ones(self):
        self.assertEqual([sure_pairs("????"), sure_pairs("??"), sure_pairs("aab?")], [(), ((0, 1),), ((2, 3),)])


class Links(unittest.TestCase):
    def test_pairs_of_letters_seen(self):
        for dim in few_dims():
            rows = fillings_by_pairs(dim)
            told = {}
            for one, other in itertools.combinations(sorted(set(dim) - {"?"}), 2):
                told[one + other] = [are_linked(row, one, other) for row in rows]
            self.assertEqual(sure_links(dim), tuple([pair for pair in told if all(told[pair])]))
            self.assertEqual(never_links(dim), tuple([pair for pair in told if not any(told[pair])]))

    def test_letters_that_were_not_seen_are_not_told(self):
        self.assertEqual([sure_links("????"), never_links("????"), sure_links("abab??"), never_links("aabb??")], [(), (), ("ab",), ("ab",)])


class Looks(unittest.TestCase):
    def test_all_ways_to_look(self):
        for dim in few_dims():
            number, places = looks_by_hand(tuple(fillings_by_pairs(dim)), dim)
            self.assertEqual([looks_needed(dim), best_looks(dim)], [number, places])
            self.assertEqual(looks_needed(dim) == 0, flat_word(dim) != "open")

    def test_many_fillings(self):
        for dim in (MOST, SIX_UNSEEN, "??????", "abcd????", "abcde?????", "a?????", "ab????????"[:8]):
            number, places = looks_by_hand(tuple(fillings_by_pairs(dim)), dim)
            self.assertEqual([looks_needed(dim), best_looks(dim)], [number, places])

    def test_none(self):
        self.assertEqual([looks_needed("??"), best_looks("??"), looks_needed("?a?a"), best_looks("?a?a")], [0, (), 0, ()])


class Hidden(unittest.TestCase):
    def test_hidden(self):
        for row in few_rows(3)[::2] + rows_with(5)[::173]:
            for many in range(1, min(6, len(row)) + 1):
                for places in list(itertools.combinations(range(len(row)), many))[::7]:
                    told = "".join(["?" if place in places else letter for place, letter in enumerate(row)])
                    self.assertEqual(hidden(row, places), told)
                    self.assertTrue(is_dim(told))
                    self.assertIn(plain(row), [plain(other) for other in fillings(told)])

    def test_fillings_like(self):
        rows = few_rows(2) + few_rows(3)[::4]
        for dim in few_dims()[::17]:
            told = fillings_by_pairs(dim)
            for row in rows:
                self.assertEqual(fillings_like(dim, row), len([other for other in told if is_same(other, row)]))
        self.assertEqual([fillings_like("????", "abab"), fillings_like("????", "bccb"), fillings_like("????", "aa")], [1, 2, 0])
        self.assertEqual(fillings_like(MOST, "abcdefghijabcdefghij"), 0)

    def test_hidden_row_is_among_the_fillings(self):
        for row in rows_with(4)[::11]:
            for places in ((0,), (0, 3, 6), (1, 2, 3, 4, 5, 7)):
                self.assertGreater(fillings_like(hidden(row, places), row), 0)


class Sure(unittest.TestCase):
    def test_what_is_sure_holds_in_all_fillings(self):
        for dim in few_dims()[::3]:
            rows = fillings(dim)
            word = flat_word(dim)
            flat = [row for row in rows if is_flat_by_corners(row)]
            self.assertEqual(word, {len(rows): "sure", 0: "never"}.get(len(flat), "open"))
            for row in rows:
                for pair in sure_links(dim):
                    self.assertTrue(are_linked(row, pair[0], pair[1]))
                for pair in never_links(dim):
                    self.assertFalse(are_linked(row, pair[0], pair[1]))
            for row in flat:
                for j, k in sure_pairs(dim):
                    self.assertEqual(row[j], row[k])

    def test_what_is_seen_besides_leaves_fewer_looks(self):
        for dim in few_dims()[::9]:
            for place, sign in enumerate(dim):
                if sign == "?" and dim.count("?") > 1:
                    for row in fillings(dim):
                        seen = dim[:place] + row[place] + dim[place + 1:]
                        if is_dim(seen) and set(fillings(seen)) <= set(fillings(dim)):
                            self.assertLessEqual(looks_needed(seen), looks_needed(dim))


class ByName(unittest.TestCase):
    def test_by_name(self):
        self.assertEqual([is_dim(value="??"), count_fillings(dim="ab??"), fillings(dim="??"), nth_filling(index=1, dim="ab??")], [True, 2, ("aa",), "abba"])
        self.assertEqual([flat_fillings(dim="ab??"), flat_word(dim="??"), handles_of(dim="??"), sure_links(dim="??")], [1, "sure", ((0, 1),), ()])
        self.assertEqual([never_links(dim="a?b?"), turns_of(dim="??"), sure_pairs(dim="??"), looks_needed(dim="ab??")], [("ab",), (-2, 0, 2), ((0, 1),), 1])
        self.assertEqual([best_looks(dim="ab??"), hidden(places=(1,), row="aa"), fillings_like(row="aa", dim="??")], [(2, 3), "a?", 1])
