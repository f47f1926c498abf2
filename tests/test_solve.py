"""[13]: solving, beside all LOCKS tried; THE SEARCH by its words."""

import random
import unittest

from newestfit.errors import NoPaper, TooMany, Unfit
from newestfit.items import lots
from newestfit.lines import is_leaf, leaf_line, line_begun
from newestfit.refusals import is_refusal, joined_all, joins_in, refusal_line, refuses, refuses_beginning, trimmed
from newestfit.solve import best_having, best_lock, can_fit, closed, first_known, has, is_solved, leaf_against, looked_at
from newestfit.solve import next_item, refusal_having, refusal_of, solved
from models import OVER, STRANGE, WIDE, WIDER, fitting_locks, has_begun, just_one, made_beginning, made_lock, made_refusals
from models import none_leaves, plain_leaf, plain_leaves, plain_search, plainly_judged, samples_of, sets_of, sets_of_leaf
from models import sets_of_line, tame_case, tame_cases
from support import Case, EARLY, EVERY, FROM_TWO, NO, ODD_THINGS, ONE, TWO, YARD, YES, as_lists, bent, has_lists
from support import plain_items, plain_order, plain_states, small_cases

APP, LIB, FAST, NET = ("app", ""), ("lib", ""), ("lib", "fast"), ("net", "")
OLD = (((0, 0, 0, -9), (2, 0, 0, -9)),)
NEW = (((2, 0, 0, -9), None),)
# The examples' shelf: app 2 needs lib 2, which needs a net below 2, of which there is none.
SHELF = (("app", ONE, (("lib", EVERY, (), YES),), (), (), False),
         ("app", TWO, (("lib", NEW, (), YES), ("net", EVERY, (), YES)), (), (), False), ("lib", ONE, (), (), (), False),
         ("lib", TWO, (("net", OLD, (), YES),), (), (), False), ("net", TWO, (), (), (), False))
WANT, HARD, BARE = ((("app", EVERY, (), YES),), (), ()), ((("app", NEW, (), YES),), (), ()), ((), (), ())
BEST = ((APP, ONE), (LIB, ONE))
NO_NET = ("leaf", ("need", LIB, TWO, 0, ""))


def cases(rng, times, most=300):
    yield from small_cases(rng, times, most)
    yield from tame_cases(rng, 2 * times, most)


class Looks(Case):
    def test_has_and_next_item(self):
        rng = random.Random(131)
        for registry, wish in cases(rng, 40):
            begun, lock = made_beginning(rng, registry, wish, True), made_lock(rng, registry, wish)
            self.assertIs(has(lock, begun), has_begun(lock, begun))
            own = tuple([(item, dict(lock).get(item)) for item, _ in begun])
            self.assertIs(has(lock, own), True)
            rest = [item for item in plain_order(registry, wish)[1] if item not in dict(begun)]
            self.same(next_item(registry, wish, begun), rest[0] if rest else None)

    def test_looks_say(self):
        self.says(True, has, lock=BEST, beginning=((APP, ONE), (NET, None)))
        self.says(False, has, lock=BEST, beginning=((APP, TWO),))
        self.says(False, has, lock=BEST, beginning=((APP, None),))
        self.says(True, has, lock=(), beginning=())
        self.says(APP, next_item, registry=SHELF, wish=WANT, beginning=())
        self.says(NET, next_item, registry=SHELF, wish=WANT, beginning=((APP, None), (LIB, (9, 0, 0, 0)), (("zoo", ""), ONE)))
        self.says(None, next_item, registry=SHELF, wish=WANT, beginning=((APP, ONE), (LIB, ONE), (NET, None)))
        self.says(None, next_item, registry=(), wish=BARE, beginning=())
        # What the WISH needs stands ahead in the ORDER.
        self.says(NET, next_item, registry=SHELF, wish=((("net", EVERY, (), YES),), (), ()), beginning=((APP, None),))

    def test_leaf_against(self):
        rng = random.Random(132)
        barred = []
        for registry, wish in cases(rng, 40):
            for odd in (False, True, True):
                begun = made_beginning(rng, registry, wish, odd)
                samples = samples_of(registry, wish, (), begun)
                told = [sets_of_leaf(registry, wish, leaf, samples) for leaf in plain_leaves(registry, wish)]
                there = dict(begun)
                shut = any(state is not None and state not in plain_states(registry, wish, item) for item, state in begun)
                met = shut or any(all(item in there and there[item] in line[item] for item in line) for line in told)
                barred.append(met)
                if not met:
                    with self.assertRaises(NoPaper):
                        leaf_against(registry, wish, begun)
                    continue
                leaf = leaf_against(registry, wish, begun)
                self.assertIs(is_leaf(registry, wish, leaf), True)
                self.assertIsNot(plain_leaf(registry, wish, leaf), None)
                self.assertIs(line_begun(leaf_line(registry, wish, leaf), begun), True)
        self.assertGreater(min(barred.count(True), barred.count(False)), 50)

    def test_leaf_against_says(self):
        self.says(("wish", 0, ""), leaf_against, registry=SHELF, wish=WANT, beginning=((APP, None),))
        self.says(NO_NET[1], leaf_against, registry=SHELF, wish=WANT, beginning=((LIB, TWO), (NET, None)))
        self.says(("none", ("zoo", "x"), just_one(ONE)), leaf_against, registry=SHELF, wish=WANT, beginning=((("zoo", "x"), ONE),))
        self.says(("wish", 0, ""), leaf_against, registry=(), wish=((("app", (), (), YES),), (), ()), beginning=())
        for begun in ((), ((APP, ONE),), ((APP, TWO), (LIB, TWO)), ((("zoo", ""), None),)):
            self.refuses(NoPaper(), leaf_against, registry=SHELF, wish=WANT, beginning=begun)


class Closed(Case):
    def test_by_sets(self):
        """The LINE has no TERM at item, at each other ITEM the one that holds if those of all do."""
        rng = random.Random(133)
        seen = 0
        for registry, wish in tame_cases(rng, 60, 300):
            leaves_told = plain_leaves(registry, wish) + none_leaves(rng, registry, wish, 6)
            samples = samples_of(registry, wish, leaves_told)
            pool = made_refusals(rng, leaves_told, plain_items(registry, wish), samples,
                                 lambda leaf: sets_of_leaf(registry, wish, leaf, samples), 30)
            for item in plain_order(registry, wish)[1]:
                rows = [[own for own in pool if state in own[1].get(item, samples[item])]
                        for state in plain_states(registry, wish, item)]
                if all(rows):
                    chosen = [rng.choice(row) for row in rows]
                    self.look_at(registry, wish, item, chosen, samples)
                    seen += 1
        self.assertGreater(seen, 60)

    def look_at(self, registry, wish, item, chosen, samples):
        told = closed(registry, wish, item, tuple([own[0] for own in chosen]))
        both = {}
        for _, line in chosen:
            for own in line:
                both[own] = set(both.get(own, samples[own])) & line[own]
        both.pop(item, None)
        self.assertIs(is_refusal(registry, wish, told), True)
        self.assertEqual(sets_of_line(refusal_line(registry, wish, told), samples), both)
        self.assertEqual(sets_of(registry, wish, told, samples), both)
        if len(chosen) > 1:
            with self.assertRaises(Unfit):
                closed(registry, wish, item, tuple([own[0] for own in chosen[1:]]))

    def test_closed_says(self):
        shut = closed(SHELF, WANT, NET, (NO_NET, NO_NET))
        self.says(shut, closed, registry=SHELF, wish=WANT, item=NET, refusals=(NO_NET, NO_NET))
        self.assertEqual(refusal_line(SHELF, WANT, shut), ((LIB, False, just_one(TWO)),))
        for own in ((), (NO_NET,), (NO_NET,) * 3):
            self.refuses(Unfit(), closed, registry=SHELF, wish=WANT, item=NET, refusals=own)
        # This one does not hold at None, or at TWO.
        without = ("leaf", ("none", NET, OLD))
        self.refuses(Unfit(), closed, registry=SHELF, wish=WANT, item=NET, refusals=(without, NO_NET))
        self.refuses(Unfit(), closed, registry=SHELF, wish=WANT, item=NET, refusals=(NO_NET, without))
        # An ITEM that nobody speaks of has one STATE; its REFUSAL says nothing of it.
        zoo = closed(SHELF, WANT, ("zoo", ""), (NO_NET,))
        self.assertEqual(refusal_line(SHELF, WANT, zoo), refusal_line(SHELF, WANT, NO_NET))
        self.assertIs(has_lists(closed(as_lists(SHELF), as_lists(WANT), list(NET), [as_lists(NO_NET)] * 2)), False)

    def test_first_known_says(self):
        shut = closed(SHELF, WANT, NET, (NO_NET, NO_NET))
        told = ((APP, ONE), (LIB, TWO))
        self.says(1, first_known, registry=SHELF, wish=WANT, refusals=(NO_NET, shut), beginning=told)
        self.says(0, first_known, registry=SHELF, wish=WANT, refusals=(shut, NO_NET, shut), beginning=told)
        self.says(0, first_known, registry=SHELF, wish=WANT, refusals=(NO_NET, shut), beginning=((LIB, TWO), (NET, None)))
        self.says(None, first_known, registry=SHELF, wish=WANT, refusals=(NO_NET, shut), beginning=((LIB, ONE), (NET, TWO)))
        self.says(None, first_known, registry=SHELF, wish=WANT, refusals=(), beginning=told)
        self.says(None, first_known, registry=SHELF, wish=WANT, refusals=(NO_NET, shut), beginning=())


class Solved(Case):
    def test_beside_all_locks(self):
        rng = random.Random(134)
        words = []
        for registry, wish in cases(rng, 50):
            fitting = fitting_locks(registry, wish)
            word, told = solved(registry, wish)
            words.append(word)
            self.assertIs(can_fit(registry, wish), bool(fitting))
            self.assertIs(is_solved(registry, wish, (word, told)), True)
            if fitting:
                self.same((word, told), ("lock", fitting[0]))
                self.same(best_lock(registry, wish), fitting[0])
                self.bars(is_solved, [("lock", own) for own in fitting[1:]] + [("refused", told), ("lock", list(told))],
                          registry=registry, wish=wish)
                with self.assertRaises(NoPaper):
                    refusal_of(registry, wish)
                continue
            self.assertEqual(word, "refused")
            self.assertTrue(plainly_judged(registry, wish, told, ()))
            self.assertIs(refuses(registry, wish, refusal_of(registry, wish)), True)
            self.assertIs(is_solved(registry, wish, (word, trimmed(registry, wish, told))), True)
            with self.assertRaises(NoPaper):
                best_lock(registry, wish)
        self.assertGreater(min(words.count("lock"), words.count("refused")), 40)

    def test_beginnings_beside_all_locks(self):
        rng = random.Random(135)
        kinds = []
        for registry, wish in cases(rng, 40):
            fitting = fitting_locks(registry, wish)
            told = [made_beginning(rng, registry, wish, odd) for odd in (False, False, True)]
            told.extend([((item, state),) for item in plain_items(registry, wish)
                         for state in plain_states(registry, wish, item)][:6])
            for begun in [(), *told]:
                having = [lock for lock in fitting if has_begun(lock, begun)]
                kinds.append(bool(having))
                if having:
                    self.same(best_having(registry, wish, begun), having[0])
                    with self.assertRaises(NoPaper):
                        refusal_having(registry, wish, begun)
                    continue
                refusal = refusal_having(registry, wish, begun)
                self.assertTrue(plainly_judged(registry, wish, refusal, begun))
                self.assertIs(refuses_beginning(registry, wish, begun, refusal), True)
                with self.assertRaises(NoPaper):
                    best_having(registry, wish, begun)
        self.assertGreater(min(kinds.count(True), kinds.count(False)), 100)

    def test_solved_says(self):
        self.says(("lock", BEST), solved, registry=SHELF, wish=WANT)
        self.says(BEST, best_lock, registry=SHELF, wish=WANT)
        self.says(True, can_fit, registry=SHELF, wish=WANT)
        self.says(False, can_fit, registry=SHELF, wish=HARD)
        self.says(("lock", ()), solved, registry=SHELF, wish=BARE)
        self.says(("lock", ()), solved, registry=(), wish=BARE)
        self.says(("lock", ()), solved, registry=(), wish=((("zoo", (), (), NO),), (), ()))
        self.says((*BEST, (NET, TWO)), best_having, registry=SHELF, wish=WANT, beginning=((NET, TWO),))
        self.says(BEST, best_having, registry=SHELF, wish=WANT, beginning=((LIB, ONE), (("zoo", ""), None)))
        self.refuses(NoPaper(), refusal_of, registry=SHELF, wish=WANT)
        self.refuses(NoPaper(), best_lock, registry=SHELF, wish=HARD)
        self.refuses(NoPaper(), refusal_having, registry=SHELF, wish=WANT, beginning=((NET, TWO),))
        for begun in (((LIB, TWO),), ((APP, None),), ((NET, ONE),), ((("zoo", ""), ONE),), ((FAST, TWO),)):
            self.refuses(NoPaper(), best_having, registry=SHELF, wish=WANT, beginning=begun)
            refusal = refusal_having(SHELF, WANT, begun)
            self.says(refusal, refusal_having, registry=SHELF, wish=WANT, beginning=begun)
            self.says(True, refuses_beginning, registry=SHELF, wish=WANT, beginning=begun, thing=refusal)
        for registry, wish in ((SHELF, HARD), ((), WANT), (SHELF, ((("app", (), (), YES),), (), ()))):
            self.says(solved(registry, wish), solved, registry=registry, wish=wish)
            self.says(refusal_of(registry, wish), refusal_of, registry=registry, wish=wish)
            self.assertIs(refuses(registry, wish, refusal_of(registry, wish)), True)

    def test_early_pulled_and_parts(self):
        early = (("app", EARLY, (), (("p", (("lib", EVERY, ("fast",), YES),)),), (), False), ("lib", ONE, (), (("fast", ()),), (), False),
                 ("lib", TWO, (), (("fast", ()),), (), True))
        wish = ((("app", EVERY, ("p",), YES),), (), ("app",))
        self.says(((APP, EARLY), (("app", "p"), EARLY), (LIB, ONE), (FAST, ONE)), best_lock, registry=early, wish=wish)
        self.says(False, can_fit, registry=early, wish=(wish[0], (), ("lib",)))
        self.says(False, can_fit, registry=early[:1] + early[2:], wish=wish)

    def test_is_solved(self):
        self.knows(is_solved, (("lock", BEST),), registry=SHELF, wish=WANT)
        self.says(True, is_solved, registry=SHELF, wish=WANT, thing=("lock", BEST))
        self.says(True, is_solved, registry=SHELF, wish=HARD, thing=("refused", refusal_of(SHELF, HARD)))
        self.bars(is_solved, [*bent(("lock", BEST)), ("lock", (*BEST, (NET, TWO))), ("refused", NO_NET), BEST,
                              ("refused", refusal_of(SHELF, HARD))], registry=SHELF, wish=WANT)
        good = ("refused", refusal_of(SHELF, HARD))
        self.assertIs(is_solved(as_lists(SHELF), as_lists(HARD), good), True)
        self.bars(is_solved, [*bent(good), ("refused", NO_NET), ("lock", BEST), ("lock", ()), ("lock", None)],
                  registry=SHELF, wish=HARD)
        for thing in ODD_THINGS:
            self.assertIs(is_solved(SHELF, HARD, thing), False)
            self.assertIs(is_solved(SHELF, HARD, ("refused", thing)), False)
            self.assertIs(is_solved(SHELF, BARE, ("lock", thing)), repr(thing) == "()")


class Search(Case):
    def test_by_its_words(self):
        rng = random.Random(136)
        longest = 0
        for registry, wish in cases(rng, 25, 200):
            found = plain_search(registry, wish)
            self.same(looked_at(registry, wish), found)
            longest = max(longest, len(found))
        self.assertGreater(longest, 25)

    def test_search_stops_at_the_best_lock(self):
        rng = random.Random(137)
        for registry, wish in tame_cases(rng, 40):
            last = looked_at(registry, wish)[-1]
            if can_fit(registry, wish):
                self.same(tuple([pair for pair in last if pair[1] is not None]), best_lock(registry, wish))
                self.assertEqual([item for item, _ in last], sorted(plain_order(registry, wish)[1]))

    def test_search_says(self):
        self.says([()], looked_at, registry=(), wish=BARE)
        self.says([()], looked_at, registry=SHELF, wish=((("app", (), (), YES),), (), ()))
        self.says([(), ((APP, None),)], looked_at, registry=(), wish=WANT)
        self.says([(), ((APP, None),), ((APP, None), (LIB, None)), ((APP, None), (LIB, None), (NET, None))], looked_at,
                  registry=SHELF, wish=BARE)
        # Pairs stand by their ITEMS, not along the ORDER.
        zoo = (("ape", ONE, (), (), (), False), ("zoo", ONE, (), (), (), False))
        self.says([(), ((("zoo", ""), None),), ((("zoo", ""), ONE),), ((("ape", ""), None), (("zoo", ""), ONE))], looked_at,
                  registry=zoo, wish=((("zoo", EVERY, (), YES),), (), ()))


class TooMuch(Case):
    def test_the_bound(self):
        self.assertEqual(lots(WIDE, BARE), 20000)
        self.assertEqual((lots(OVER, BARE), lots(WIDER, BARE)), (20250, 40000))
        wish = ((("dog", EVERY, (), YES), ("cat", FROM_TWO, (), YES)), (), ())
        self.same(best_lock(WIDE, wish), ((("ape", ""), (4, 0, 0, 0)), (("cat", ""), (4, 0, 0, 0)), (("dog", ""), (4, 0, 0, 0))))
        self.assertIs(can_fit(WIDE, wish), True)
        self.assertEqual(len(looked_at(WIDE, BARE)), 10)
        more = (*wish[0], ("ape", (), (), YES))
        self.assertIs(is_solved(WIDE, (more, (), ()), solved(WIDE, (more, (), ()))), True)

    def test_too_many_first_of_all(self):
        for wish in (BARE, ((("zoo", (), (), YES),), (), ())):
            for function in (solved, can_fit, best_lock, refusal_of, looked_at):
                self.refuses(TooMany(), function, registry=WIDER, wish=wish)
                self.refuses(TooMany(), function, registry=OVER, wish=wish)
            for function in (best_having, refusal_having):
                self.refuses(TooMany(), function, registry=WIDER, wish=wish, beginning=((("zoo", ""), ONE),))
            for thing in (None, ("lock", ()), ["lock", ()]):
                self.refuses(TooMany(), is_solved, registry=WIDER, wish=wish, thing=thing)

    def test_these_never_tell_too_many(self):
        elk = ("elk", "")
        self.assertIs(has((), ()), True)
        self.same(next_item(WIDER, BARE, ()), ("ape", ""))
        self.same(leaf_against(WIDER, BARE, ((("ape", ""), None), (("dog", ""), ONE))), ("need", ("dog", ""), ONE, 0, ""))
        shut = ("leaf", ("none", elk, FROM_TWO))
        self.assertIs(first_known(WIDER, BARE, (shut,), ((elk, TWO),)), 0)
        with self.assertRaises(Unfit):
            closed(WIDER, BARE, elk, (shut, shut))
        both = ("leaf", ("need", ("dog", ""), ONE, 0, ""))
        self.assertEqual(closed(WIDER, BARE, elk, (both, both))[0], "join")


class Refusals(Case):
    def test_refusals_of_large_ones_stay_short(self):
        rng = random.Random(138)
        seen = 0
        while seen < 40:
            registry, wish = tame_case(rng, chance=0.8)
            if not 1000 < lots(registry, wish) <= 20000 or can_fit(registry, wish):
                continue
            seen += 1
            refusal = refusal_of(registry, wish)
            self.assertIs(refuses(registry, wish, refusal), True)
            self.assertLess(joins_in(refusal), 1000)
            self.assertIs(refuses(registry, wish, joined_all(("zoo", ""), (refusal, refusal))), True)

    def test_strange_items_are_refused(self):
        for item in STRANGE:
            refusal = refusal_having(YARD, BARE, ((item, ONE),))
            self.assertTrue(plainly_judged(YARD, BARE, refusal, ((item, ONE),)))
            self.same(best_having(YARD, BARE, ((item, None),)), ())


if __name__ == "__main__":
    unittest.main()
