"""[16]: all LEAN LOCKS and what is sure, dead or apart, beside all LOCKS; COVERS beside all sets of LEAN LOCKS."""

import itertools
import random
import unittest

from newestfit.alllocks import cover, dead, how_many, is_cover, is_sure_paper, kind_of, lean_at, lean_locks, lean_number
from newestfit.alllocks import pairs_apart, shares, states_had, sure, sure_paper
from newestfit.errors import NoPaper, TooMany, Unfit
from newestfit.lines import is_line
from newestfit.refusals import refusal_line, refuses
from newestfit.solve import best_lock, refusal_having, refusal_of
from models import OVER, STRANGE, WIDE, WIDER, fitting_locks, lean_ones, leaves_in, plain_leaf, plain_lean, plain_leaves, samples_of
from models import sets_of, tame_cases
from support import Case, EARLY, EVERY, FEW_VERSIONS, FIRST, FROM_TWO, NO, ODD_THINGS, ONE, TWO, YES, as_lists, bent
from support import has_lists, plain_items, plain_states, plainly_open, small_cases, subsets

APP, LIB = ("app", ""), ("lib", "")
LAST = (1, 1, 0, 0)
SHELF = (("app", ONE, (("lib", ((ONE, TWO),), (), YES),), (), (), False), ("app", TWO, (("lib", FROM_TWO, (), YES),), (), (), False),
         ("lib", ONE, (), (), (), False), ("lib", LAST, (), (), (), False), ("lib", TWO, (), (), (), False))
WISH, LATE, BARE = ((("app", ((ONE, None),), (), YES),), (), ()), ((("app", FROM_TWO, (), YES),), (), ()), ((), (), ())
HOPELESS = ((("app", (), (), YES),), (), ())
OLD, NEW, MID = ((APP, ONE), (LIB, ONE)), ((APP, TWO), (LIB, TWO)), ((APP, ONE), (LIB, LAST))
LEAN = [NEW, MID, OLD]
SMALL = ("app", "lib", "net", "web")


def cases(rng, times, most=400):
    yield from small_cases(rng, times // 3, most)
    yield from tame_cases(rng, times, most)


def pairs_of(locks):
    return sorted({pair for lock in locks for pair in lock})


def open_pairs(registry, wish):
    return [(item, state) for item in plain_items(registry, wish) for state in plain_states(registry, wish, item)[1:]]


def plainly_sure(registry, wish, item, version, refusal):
    """Whether refusal is a paper for a sure pair, by its LINE as sets."""
    told = leaves_in(refusal)
    if any(plain_leaf(registry, wish, leaf) is None for leaf in told):
        return False
    line = sets_of(registry, wish, refusal, samples_of(registry, wish, told, ((item, version),)))
    if not set(line) <= {item}:
        return False
    others = [state for state in plain_states(registry, wish, item) if state != version]
    return all(state in line[own] for own in line for state in others)


class Lean(Case):
    def test_beside_all_locks(self):
        rng = random.Random(161)
        most = 0
        for registry, wish in cases(rng, 80):
            fitting, found = fitting_locks(registry, wish), lean_ones(registry, wish)
            self.same(lean_locks(registry, wish), found)
            self.same(how_many(registry, wish), len(found))
            self.same(shares(registry, wish), [(pair, sum(pair in lock for lock in found)) for pair in pairs_of(found)])
            for k, lock in enumerate(found):
                self.same(lean_at(registry, wish, k), lock)
                self.same(lean_number(registry, wish, lock), k)
            for lock in fitting:
                own = tuple([pair for pair in lock if pair[0] in plain_lean(registry, wish, lock)[0]])
                self.assertIn(own, found)
                if lock not in found:
                    with self.assertRaises(Unfit):
                        lean_number(registry, wish, lock)
            bound = 1
            for item in plain_items(registry, wish):
                bound *= max(1, len(plain_states(registry, wish, item)) - 1) if item[1] == "" else 1
            self.assertLessEqual(len(found), bound)
            most = max(most, len(found))
        self.assertGreater(most, 3)

    def test_lean_say(self):
        self.says(LEAN, lean_locks, registry=SHELF, wish=WISH)
        self.says([()], lean_locks, registry=SHELF, wish=BARE)
        self.says([()], lean_locks, registry=(), wish=((("zoo", EVERY, (), NO),), (), ()))
        self.says([], lean_locks, registry=SHELF, wish=HOPELESS)
        self.says([NEW], lean_locks, registry=SHELF, wish=LATE)
        self.says(3, how_many, registry=SHELF, wish=WISH)
        self.says(0, how_many, registry=SHELF, wish=HOPELESS)
        self.says(MID, lean_at, registry=SHELF, wish=WISH, number=1)
        for number in (-1, 3, 10 ** 20, -3):
            self.refuses(Unfit(), lean_at, registry=SHELF, wish=WISH, number=number)
        self.refuses(Unfit(), lean_at, registry=SHELF, wish=HOPELESS, number=0)
        self.says(2, lean_number, registry=SHELF, wish=WISH, lock=OLD)
        self.says(0, lean_number, registry=SHELF, wish=BARE, lock=())
        for lock in ((), OLD[:1], ((APP, ONE), (LIB, TWO)), (*OLD, (("zoo", ""), ONE)), ((APP, (7, 0, 0, 0)), (LIB, ONE))):
            self.refuses(Unfit(), lean_number, registry=SHELF, wish=WISH, lock=lock)
        # Fits, but is not lean.
        self.refuses(Unfit(), lean_number, registry=SHELF, wish=BARE, lock=((LIB, ONE),))
        self.says([((APP, ONE), 2), ((APP, TWO), 1), ((LIB, ONE), 1), ((LIB, LAST), 1), ((LIB, TWO), 1)], shares,
                  registry=SHELF, wish=WISH)
        self.says([], shares, registry=SHELF, wish=BARE)

    def test_parts_and_early_ones(self):
        registry = (("app", EARLY, (), (("p", (("lib", EVERY, ("q",), YES),)),), (), False), ("lib", ONE, (), (("q", ()),), (), False),
                    ("lib", TWO, (), (("q", (("app", EVERY, (), YES),)),), (("app", EVERY),), False))
        wish = ((("app", EVERY, ("p",), YES),), (), ("app",))
        lock = ((APP, EARLY), (("app", "p"), EARLY), (LIB, ONE), (("lib", "q"), ONE))
        self.says([lock], lean_locks, registry=registry, wish=wish)
        self.says([], lean_locks, registry=registry, wish=(wish[0], (), ()))
        self.says(lock, sure, registry=registry, wish=wish)


class Kinds(Case):
    def test_beside_all_locks(self):
        rng = random.Random(162)
        kinds = []
        for registry, wish in cases(rng, 80):
            fitting, found = fitting_locks(registry, wish), lean_ones(registry, wish)
            had = pairs_of(fitting)
            for item in (*plain_items(registry, wish), *STRANGE):
                states = [state for state in plain_states(registry, wish, item)
                          if any(dict(lock).get(item) == state for lock in fitting)]
                self.same(states_had(registry, wish, item), tuple(states))
                for version in {*FEW_VERSIONS, *plain_states(registry, wish, item)[1:], (7, 0, 0, 0)}:
                    pair = (item, version)
                    told = ("shut" if not plainly_open(registry, wish[2], item, version) else "live" if pair in pairs_of(found)
                            else "idle" if pair in had else "dead")
                    self.same(kind_of(registry, wish, item, version), told)
                    kinds.append(told)
            self.same(dead(registry, wish), tuple(sorted([pair for pair in open_pairs(registry, wish) if pair not in had])))
            if fitting:
                everywhere = [pair for pair in had if all(pair in lock for lock in fitting)]
                self.same(sure(registry, wish), tuple(everywhere))
            else:
                with self.assertRaises(NoPaper):
                    sure(registry, wish)
            apart = [(one, other) for one, other in itertools.combinations(had, 2)
                     if one[0] != other[0] and not any(one in lock and other in lock for lock in fitting)]
            self.same(pairs_apart(registry, wish), tuple(apart))
        self.assertGreater(min(map(kinds.count, ("live", "idle", "dead", "shut"))), 60)

    def test_kinds_say(self):
        for wish, item, version, told in ((WISH, LIB, ONE, "live"), (BARE, LIB, ONE, "idle"), (LATE, LIB, ONE, "dead"),
                                          (WISH, LIB, (9, 0, 0, 0), "shut"), (WISH, ("zoo", ""), ONE, "shut"),
                                          (WISH, ("lib", "p"), ONE, "shut"), (HOPELESS, LIB, ONE, "dead")):
            self.says(told, kind_of, registry=SHELF, wish=wish, item=item, version=version)
        self.says((None, TWO, LAST, ONE), states_had, registry=SHELF, wish=BARE, item=LIB)
        self.says((TWO,), states_had, registry=SHELF, wish=LATE, item=LIB)
        self.says((None,), states_had, registry=SHELF, wish=WISH, item=("zoo", "p"))
        self.says((), states_had, registry=SHELF, wish=HOPELESS, item=LIB)
        self.says((), states_had, registry=SHELF, wish=HOPELESS, item=("zoo", "p"))
        self.says(NEW, sure, registry=SHELF, wish=LATE)
        self.says((), sure, registry=SHELF, wish=WISH)
        self.says((), sure, registry=(), wish=BARE)
        self.refuses(NoPaper(), sure, registry=SHELF, wish=HOPELESS)
        self.says(((APP, ONE), (LIB, ONE), (LIB, LAST)), dead, registry=SHELF, wish=LATE)
        self.says((), dead, registry=SHELF, wish=BARE)
        self.says(((APP, ONE), (APP, TWO), (LIB, ONE), (LIB, LAST), (LIB, TWO)), dead, registry=SHELF, wish=HOPELESS)
        self.says((((APP, ONE), (LIB, TWO)), ((APP, TWO), (LIB, ONE)), ((APP, TWO), (LIB, LAST))), pairs_apart,
                  registry=SHELF, wish=BARE)
        self.says((), pairs_apart, registry=SHELF, wish=HOPELESS)
        self.says((), pairs_apart, registry=SHELF, wish=LATE)

    def test_what_is_dead_is_refused(self):
        """A pair is dead exactly if it, as a BEGINNING, is refused."""
        rng = random.Random(163)
        for registry, wish in tame_cases(rng, 40):
            gone = dead(registry, wish)
            for pair in open_pairs(registry, wish):
                if pair in gone:
                    self.assertEqual(set(leaves_in(refusal_having(registry, wish, (pair,)))) - set(plain_leaves(registry, wish)),
                                     {leaf for leaf in leaves_in(refusal_having(registry, wish, (pair,))) if leaf[0] == "none"})
                else:
                    with self.assertRaises(NoPaper):
                        refusal_having(registry, wish, (pair,))


class Sure(Case):
    def test_beside_all_locks(self):
        rng = random.Random(164)
        kinds = []
        for registry, wish in cases(rng, 70):
            fitting = fitting_locks(registry, wish)
            for item in (*plain_items(registry, wish), STRANGE[0]):
                for version in (*plain_states(registry, wish, item)[1:], (7, 0, 0, 0)):
                    has_all = all(dict(lock).get(item) == version for lock in fitting)
                    kinds.append((has_all, bool(fitting)))
                    if not has_all:
                        with self.assertRaises(NoPaper):
                            sure_paper(registry, wish, item, version)
                        continue
                    paper = sure_paper(registry, wish, item, version)
                    self.assertTrue(plainly_sure(registry, wish, item, version, paper))
                    self.assertIs(is_sure_paper(registry, wish, item, version, paper), True)
                    self.assertIs(refuses(registry, wish, paper), not fitting)
        self.assertGreater(min(map(kinds.count, ((True, True), (True, False), (False, True)))), 20)

    def test_judged_by_the_line_alone(self):
        rng = random.Random(165)
        told = []
        for registry, wish in cases(rng, 40):
            leaves = plain_leaves(registry, wish)
            for item in plain_items(registry, wish):
                shut = ("none", item, ((FIRST, (0, 0, 0, -8)),))
                some = [leaf for leaf in leaves if item in [own for own, _ in plain_leaf(registry, wish, leaf)]] + [shut]
                for _ in range(6):
                    refusal = ("leaf", rng.choice(some))
                    if rng.random() < 0.6:
                        refusal = ("join", item, refusal, ("leaf", rng.choice(some)))
                    for version in (*plain_states(registry, wish, item)[1:], (7, 0, 0, 0)):
                        expected = plainly_sure(registry, wish, item, version, refusal)
                        self.assertIs(is_sure_paper(registry, wish, item, version, refusal), expected)
                        told.append(expected)
        self.assertGreater(min(told.count(True), told.count(False)), 30)

    def test_lists_for_tuples(self):
        for item, version, told in ((APP, TWO, True), (APP, ONE, False), (LIB, TWO, False)):
            self.says(told, is_sure_paper, registry=SHELF, wish=LATE, item=item, version=version, thing=("leaf", ("wish", 0, "")))
        # What holds at all other VERSIONS need not hold at this one, be it a list.
        none_but_two = ("join", APP, ("leaf", ("wish", 0, "")), ("leaf", ("none", APP, (((5, 0, 0, 0), None),))))
        self.says(True, is_sure_paper, registry=SHELF, wish=LATE, item=APP, version=TWO, thing=none_but_two)
        self.says(True, is_cover, registry=SHELF, wish=WISH, thing=(OLD, MID, NEW))

    def test_papers_say(self):
        wished = ("leaf", ("wish", 0, ""))
        self.knows(is_sure_paper, (wished,), registry=SHELF, wish=LATE, item=APP, version=TWO)
        self.bars(is_sure_paper, [*bent(wished), ("leaf", ("need", APP, TWO, 0, ""))], registry=SHELF, wish=LATE, item=APP, version=TWO)
        self.bars(is_sure_paper, (wished,), registry=SHELF, wish=LATE, item=APP, version=ONE)
        self.bars(is_sure_paper, (wished,), registry=SHELF, wish=LATE, item=LIB, version=TWO)
        self.bars(is_sure_paper, (("leaf", ("none", APP, (((5, 0, 0, 0), None),))),), registry=SHELF, wish=LATE, item=APP, version=TWO)
        nothing = refusal_of(SHELF, HOPELESS)
        for item, version in ((APP, TWO), (LIB, (9, 0, 0, 0)), (("zoo", "x"), ONE)):
            self.knows(is_sure_paper, (nothing,), registry=SHELF, wish=HOPELESS, item=item, version=version)
            paper = sure_paper(SHELF, HOPELESS, item, version)
            self.says(paper, sure_paper, registry=SHELF, wish=HOPELESS, item=item, version=version)
            self.assertEqual(refusal_line(SHELF, HOPELESS, paper), ())
        for item, version in ((APP, TWO), (LIB, TWO)):
            paper = sure_paper(SHELF, LATE, item, version)
            self.says(paper, sure_paper, registry=SHELF, wish=LATE, item=item, version=version)
            self.assertIs(is_line(refusal_line(SHELF, LATE, paper)), True)
            self.assertEqual([term[:2] for term in refusal_line(SHELF, LATE, paper)], [(item, True)])
        for wish, item, version in ((WISH, APP, TWO), (LATE, LIB, ONE), (LATE, LIB, (9, 0, 0, 0)), (LATE, ("zoo", ""), ONE), (BARE, LIB, TWO)):
            self.refuses(NoPaper(), sure_paper, registry=SHELF, wish=wish, item=item, version=version)


class Covers(Case):
    def test_beside_all_sets(self):
        rng = random.Random(166)
        sizes = []
        for registry, wish in cases(rng, 100):
            found = lean_ones(registry, wish)
            live = pairs_of(found)
            told = cover(registry, wish)
            self.assertTrue(set(told) <= set(found) and pairs_of(told) == live)
            self.same(told, tuple(sorted(set(told))))
            self.assertIs(is_cover(registry, wish, told), True)
            least = min(len(own) for own in subsets(found) if pairs_of(own) == live) if len(found) < 13 else len(told)
            self.assertEqual(len(told), least)
            sizes.append(least)
            for own in subsets(found)[:60]:
                self.assertIs(is_cover(registry, wish, own), pairs_of(own) == live)
        self.assertTrue({0, 1, 2, 3} <= set(sizes))

    def test_larger_ones(self):
        """Of NAMES that all go with each other as many LOCKS are needed as one has VERSIONS."""
        free = tuple([(name, (number, 0, 0, 0), (), (), (), False) for name in SMALL for number in (1, 2, 3)])
        wish = (tuple([(name, EVERY, (), YES) for name in SMALL]), (), ())
        self.assertEqual((how_many(free, wish), len(cover(free, wish))), (81, 3))
        self.assertIs(is_cover(free, wish, tuple(sorted(lean_locks(free, wish)))), True)
        # Each VERSION of the first NAME needs another one: no LOCK has two of these.
        chain = tuple([("app", (k, 0, 0, 0), ((name, EVERY, (), YES),), (), (), False) for k, name in ((1, "lib"), (2, "net"), (3, "web"))])
        apart = chain + tuple([own for own in free if own[0] != "app"])
        self.assertEqual((how_many(apart, WISH), len(cover(apart, WISH))), (9, 9))

    def test_the_greatest_gains_are_no_guide(self):
        """Two LOCKS are a COVER, but not any two of those that have most."""
        other = ((TWO, None),)
        sheet = (("app", ONE, (), ()), ("app", TWO, (), ()), ("lib", ONE, (), ()), ("lib", TWO, (), (("net", other),)),
                 ("net", ONE, (), ()), ("net", TWO, (), ()), ("web", ONE, (("app", other, (), YES),), ()), ("web", TWO, (), ()))
        registry = tuple([(name, own, needs, (), clashes, False) for name, own, needs, clashes in sheet])
        wish = (tuple([(name, EVERY, (), YES) for name in SMALL]), (), ())
        found = lean_ones(registry, wish)
        self.assertEqual(len(found), 9)
        told = cover(registry, wish)
        self.assertEqual(len(told), 2)
        self.assertEqual(pairs_of(told), pairs_of(found))
        # So it is with many that are drawn: NAMES that are all wished for, some of which clash.
        rng = random.Random(167)
        for _ in range(60):
            registry = self.crowded(rng)
            found = lean_ones(registry, wish)
            live = pairs_of(found)
            if len(found) < 11:
                least = min(len(own) for own in subsets(found) if pairs_of(own) == live)
                self.assertEqual(len(cover(registry, wish)), least)

    def crowded(self, rng):
        found = []
        for name, number in itertools.product(SMALL, (1, 2, 3)):
            spans = [(((low, 0, 0, 0), (high, 0, 0, -9)),) for low, high in ((1, 2), (1, 3), (2, 3), (2, 4), (3, 4))]
            needs = tuple([(rng.choice(SMALL), rng.choice(spans), (), YES) for _ in range(rng.choice((0, 1, 1)))])
            clashes = tuple([(rng.choice(SMALL), rng.choice(spans)) for _ in range(rng.choice((0, 0, 1)))])
            if rng.random() < 0.8:
                found.append((name, (number, 0, 0, 0), needs, (), clashes, False))
        return tuple(found)

    def test_covers_say(self):
        self.says((), cover, registry=SHELF, wish=BARE)
        self.says((), cover, registry=SHELF, wish=HOPELESS)
        self.says((OLD, MID, NEW), cover, registry=SHELF, wish=WISH)
        self.knows(is_cover, ((OLD, MID, NEW),), registry=SHELF, wish=WISH)
        self.bars(is_cover, [*bent((OLD, MID, NEW)), (OLD, NEW), (NEW, MID, OLD), (OLD, OLD, MID, NEW), ()], registry=SHELF, wish=WISH)
        self.knows(is_cover, ((), ((),)), registry=SHELF, wish=BARE)
        self.bars(is_cover, (((), OLD), (OLD,)), registry=SHELF, wish=BARE)
        self.knows(is_cover, ((),), registry=SHELF, wish=HOPELESS)
        for thing in ODD_THINGS:
            self.assertIs(is_cover(SHELF, WISH, (thing,)), False)
        self.assertIs(has_lists(cover(as_lists(SHELF), as_lists(WISH))), False)


class TooMuch(Case):
    def test_too_many_first_of_all(self):
        for item, version in ((("elk", ""), ONE), (("zoo", "x"), TWO)):
            for function in (kind_of, sure_paper):
                self.refuses(TooMany(), function, registry=WIDER, wish=BARE, item=item, version=version)
                self.refuses(TooMany(), function, registry=WIDER, wish=HOPELESS, item=item, version=version)
            self.refuses(TooMany(), states_had, registry=WIDER, wish=BARE, item=item)
        for function in (dead, pairs_apart):
            self.refuses(TooMany(), function, registry=WIDER, wish=BARE)
            self.refuses(TooMany(), function, registry=OVER, wish=BARE)

    def test_these_never_tell_too_many(self):
        wish = ((("cat", EVERY, (), YES), ("elk", EVERY, (), YES)), (), ())
        self.assertEqual(how_many(WIDER, wish), 16)
        locks = lean_locks(WIDER, wish)
        self.same(lean_at(WIDER, wish, 0), locks[0])
        self.assertEqual(lean_number(WIDER, wish, locks[7]), 7)
        self.assertEqual(dict(shares(WIDER, wish))[(("elk", ""), ONE)], 16)
        self.same(sure(WIDER, wish), ((("elk", ""), ONE),))
        self.assertEqual(len(cover(WIDER, wish)), 4)
        self.assertIs(is_cover(WIDER, wish, tuple(sorted(locks))), True)
        self.assertIs(is_sure_paper(WIDER, wish, ("elk", ""), ONE, ("leaf", ("wish", 1, ""))), True)

    def test_just_as_many_as_allowed(self):
        wish = ((("dog", EVERY, (), YES), ("bee", EVERY, ("p",), YES)), (), ())
        self.same(kind_of(WIDE, wish, ("bee", ""), ONE), "live")
        self.same(kind_of(WIDE, wish, ("bee", "q"), ONE), "idle")
        self.same(kind_of(WIDE, wish, ("bee", ""), TWO), "dead")
        self.same(states_had(WIDE, wish, ("bee", "p")), (ONE,))
        self.same(sure(WIDE, wish), ((("bee", ""), ONE), (("bee", "p"), ONE)))
        self.assertIs(is_sure_paper(WIDE, wish, ("bee", "p"), ONE, sure_paper(WIDE, wish, ("bee", "p"), ONE)), True)
        self.same(dead(WIDE, wish), tuple([(("bee", ""), (number, 0, 0, 0)) for number in (2, 3, 4)]))
        self.assertIn(((("ape", ""), TWO), (("ape", "p"), ONE)), pairs_apart(WIDE, wish))
        self.same(lean_locks(WIDE, wish)[0], best_lock(WIDE, wish))


if __name__ == "__main__":
    unittest.main()
