"""How long the longest inputs within the bounds of [3] take; each row well under its limit, so that a slow machine
does not matter."""

import random
import unittest

from newestfit.alllocks import cover, dead, is_cover, kind_of, lean_locks, pairs_apart, shares, states_had, sure
from newestfit.alllocks import sure_paper
from newestfit.best import best_locks, full_paper, is_full_paper, is_rank_paper, next_best, next_better, rank_of
from newestfit.best import rank_paper, ranked, turned_down, turnings, turnings_ahead
from newestfit.items import lots, order
from newestfit.lines import leaf_line, leaves, met_leaves
from newestfit.locks import faults, first_other, fits, lean, needed
from newestfit.refusals import is_refusal, joined_all, joins_in, leaf_reached, lines_by_rows, of_rows, refusal_line
from newestfit.refusals import refuses_beginning, rows_of, trimmed
from newestfit.solve import best_having, can_fit, closed, leaf_against, looked_at, refusal_having, solved
from newestfit.updates import fate, held, kept_states, lost, lost_paper, refreshed, stays, updated
from large import SIX, WORDS, colours, full_registry
from models import WIDE, wide_registry
from support import Case, EVERY, YES, as_lists


FREE = tuple([(name, (number, 0, 0, 0), (), (), (), False) for name in SIX for number in range(1, 5)])


class Times(Case):
    def test_the_largest_registry(self):
        rng = random.Random(171)
        registry, wish = full_registry(rng)
        items = order(registry, wish)
        self.assertEqual((len(registry), len(items)), (24, 18))
        lock = tuple(sorted([(item, rng.choice([own[1] for own in registry if own[0] == item[0]])) for item in items]))
        for function in (faults, fits, needed, lean, met_leaves):
            self.timed(function, registry, wish, lock)
        self.timed(first_other, registry, wish, lock, ())
        told = self.timed(leaves, registry, wish)
        self.assertGreater(len(told), 250)
        for leaf in told[::10]:
            self.timed(leaf_line, registry, wish, leaf)
        self.timed(leaf_against, registry, wish, lock)
        self.timed(kept_states, registry, wish, lock, items[3])
        free = (wish[:0], WORDS, SIX)
        empty = self.timed(turnings, registry, free, ((),))
        self.assertEqual(len(empty), 72)
        self.assertEqual(self.timed(turnings_ahead, registry, free, ((),)), [])
        self.assertGreater(lots(registry, wish), 10 ** 11)

    def test_the_longest_refusals(self):
        rng = random.Random(172)
        registry, wish = full_registry(rng)
        told, items = leaves(registry, wish), order(registry, wish)
        deep = ("leaf", told[0])
        for k in range(200):
            deep = ("join", rng.choice(items), deep, ("leaf", rng.choice(told)))
        rows = [("leaf", leaf) for leaf in rng.sample(told, 200)]
        while len(rows) < 399:
            rows.append(("join", rng.choice(items), 2 * (len(rows) - 200), 2 * (len(rows) - 200) + 1))
        broad = joined_all(items[0], tuple([of_rows(tuple(rows))] * 5))
        self.assertGreater(joins_in(broad), 990)
        for refusal in (deep, broad):
            for turned in (refusal, as_lists(refusal)):
                self.timed(refusal_line, registry, wish, turned)
                self.timed(trimmed, registry, wish, turned)
                self.timed(lines_by_rows, registry, wish, self.timed(rows_of, turned))
            self.assertIs(self.timed(is_refusal, registry, wish, refusal), True)
            self.timed(refuses_beginning, registry, wish, ((items[0], None),), refusal)
        self.timed(joined_all, items[0], [broad] * 60)
        line = [leaf for leaf in told if leaf[0] == "wish"][0]
        self.assertEqual(self.timed(leaf_reached, registry, wish, ("leaf", line), ()), line)
        shut = ("leaf", ("none", ("zoo", ""), EVERY))
        self.timed(closed, registry, wish, ("zoo", "x"), (deep,))
        self.assertEqual(joins_in(self.timed(joined_all, ("zoo", ""), (shut, deep))), 201)

    def test_searches_where_nothing_fits(self):
        registry, wish = colours()
        self.assertEqual(lots(registry, wish), 15625)
        self.assertIs(self.timed(can_fit, registry, wish), False)
        refusal = self.timed(solved, registry, wish)[1]
        self.assertLess(joins_in(refusal), 1000)
        self.timed(looked_at, registry, wish)
        self.assertEqual(len(self.timed(dead, registry, wish)), 24)
        self.assertEqual(self.timed(lean_locks, registry, wish), [])
        self.assertEqual(self.timed(best_locks, registry, wish, 5), [])
        self.assertEqual(self.timed(states_had, registry, wish, ("ape", "")), ())
        self.timed(full_paper, registry, wish, ())
        self.timed(sure_paper, registry, wish, ("ape", ""), (1, 0, 0, 0))

    def test_searches_where_all_fits(self):
        wish = ((), (), ())
        for registry, many in ((FREE, 15625), (WIDE, None)):
            locks = tuple(self.timed(best_locks, registry, wish, 20001))
            self.assertEqual(len(locks), many or len(locks))
            self.assertGreater(len(locks), 500)
            self.look_at(registry, wish, locks)

    def look_at(self, registry, wish, locks):
        self.assertEqual(self.timed(rank_of, registry, wish, locks[-1]), len(locks) - 1)
        self.assertEqual(self.timed(ranked, registry, wish, len(locks) - 1), locks[-1])
        half = len(locks) // 2
        self.assertEqual(self.timed(next_best, registry, wish, locks[half]), locks[half + 1])
        self.assertEqual(self.timed(next_better, registry, wish, locks[half]), locks[half - 1])
        self.timed(turned_down, registry, wish)
        paper = self.timed(full_paper, registry, wish, locks)
        self.assertIs(self.timed(is_full_paper, registry, wish, locks, paper), True)
        paper = self.timed(rank_paper, registry, wish, locks[:half])
        self.assertIs(self.timed(is_rank_paper, registry, wish, locks[:half], paper), True)
        self.timed(turnings, registry, wish, locks[::2])
        old = locks[-1]
        for function in (held, updated, lost):
            self.timed(function, registry, wish, old)
        self.assertEqual(self.timed(fate, registry, wish, old, old[0][0]), "needless")
        self.timed(refreshed, registry, wish, old, SIX)
        self.timed(pairs_apart, registry, wish)
        self.timed(dead, registry, wish)
        self.timed(kind_of, registry, wish, old[0][0], old[0][1])
        self.timed(looked_at, registry, wish)

    def test_the_widest_search(self):
        """20,000 LOCKS, none of which fits: what bars them is told at the last ITEM of the ORDER."""
        last = ("zoo", (1, 0, 0, 0), (), (), tuple([("yak", EVERY), ("zoo", EVERY)]), False)
        yak = ("yak", (1, 0, 0, 0), (("zoo", EVERY, (), YES),), (), (), False)
        registry = wide_registry({"ape": ("p", "q"), "bee": ("p",)}) + (yak, last)
        wish = (tuple([(name, EVERY, (), YES) for name in ("ape", "bee", "dog", "yak")]), (), ())
        self.assertEqual(lots(registry, wish), 20000)
        self.assertIs(self.timed(can_fit, registry, wish), False)
        self.timed(looked_at, registry, wish)
        refusal = self.timed(refusal_having, registry, wish, ((("ape", ""), (1, 0, 0, 0)),))
        self.assertLess(joins_in(refusal), 50)
        self.assertEqual(self.timed(best_locks, registry, wish, 20000), [])

    def test_small_registries(self):
        """[16] and lost_paper, of as many LOCKS as small ones have."""
        small = tuple([(name, (number, 0, 0, 0), (), (("p", ()),), (), False) for name in SIX[:4] for number in range(1, 4)])
        wish = (tuple([(name, EVERY, ("p",), YES) for name in SIX[:4]]), (), ())
        self.assertEqual(len(self.timed(lean_locks, small, wish)), 81)
        self.assertEqual(len(self.timed(shares, small, wish)), 24)
        self.assertEqual(self.timed(sure, small, wish), ())
        found = self.timed(cover, small, wish)
        self.assertEqual(len(found), 3)
        self.assertIs(self.timed(is_cover, small, wish, found), True)
        narrow = ((*wish[0][:3], ("dog", (((3, 0, 0, 0), None),), (), YES)), (), ())
        few = tuple([own if own[0] in SIX[:2] else own[:3] + ((),) + own[4:] for own in small])
        free = (wish[0][:1], (), ())
        old = ((("ape", ""), (1, 0, 0, 0)), (("ape", "p"), (1, 0, 0, 0)), (("cat", ""), (9, 0, 0, 0)))
        self.assertEqual(lots(few, free), 4096)
        self.assertEqual(self.timed(updated, few, free, old), old[:2])
        hard = (free[0] + (("cat", EVERY, (), YES),), (), ())
        self.timed(lost_paper, few, hard, old, ("cat", ""))
        self.assertIs(self.timed(stays, few, hard, ("elk", (1, 0, 0, 0), (), (), (), False)), True)
        self.timed(best_having, few, hard, ((("dog", ""), (1, 0, 0, 0)),))
        self.assertEqual(len(self.timed(lean_locks, small, narrow)), 27)


if __name__ == "__main__":
    unittest.main()
