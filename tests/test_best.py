"""[14]: the best LOCKS, beside all that fit put in order; TURNINGS by their words; PAPERS judged REFUSAL by REFUSAL."""

import random
import unittest

from newestfit.best import best_locks, better_lock, full_paper, is_better_lock, is_full_paper, is_rank_paper, next_best
from newestfit.best import next_better, rank_of, rank_paper, ranked, turned_down, turnings, turnings_ahead
from newestfit.errors import NoPaper, TooMany, Unfit
from newestfit.items import lots
from newestfit.lines import is_beginning
from newestfit.solve import best_lock, refusal_having, refusal_of
from models import OVER, STRANGE, WIDE, WIDER, fitting_locks, has_begun, plain_turnings, plainly_judged, tame_cases
from support import Case, EVERY, ODD_THINGS, ONE, TWO, YES, as_lists, bent, has_lists, open_locks, plain_order, small_cases

APP, LIB, NET = ("app", ""), ("lib", ""), ("net", "")
OLD = (((0, 0, 0, -9), (2, 0, 0, -9)),)
NEW = (((2, 0, 0, -9), None),)
SHELF = (("app", ONE, (("lib", EVERY, (), YES),), (), (), False),
         ("app", TWO, (("lib", NEW, (), YES), ("net", EVERY, (), YES)), (), (), False), ("lib", ONE, (), (), (), False),
         ("lib", TWO, (("net", OLD, (), YES),), (), (), False), ("net", TWO, (), (), (), False))
WANT, HARD, BARE = ((("app", EVERY, (), YES),), (), ()), ((("app", NEW, (), YES),), (), ()), ((), (), ())
FIRST, SECOND = ((APP, ONE), (LIB, ONE)), ((APP, ONE), (LIB, ONE), (NET, TWO))
BOTH = (FIRST, SECOND)
AHEAD = [((APP, None),), ((APP, TWO),), ((APP, ONE), (LIB, None)), ((APP, ONE), (LIB, TWO))]
WITH_LOCKS = (turnings, turnings_ahead, rank_paper, full_paper)
WITH_LOCK = (rank_of, better_lock, next_best, next_better)


def cases(rng, times, most=300):
    yield from small_cases(rng, times // 2, most)
    yield from tame_cases(rng, times, most)


class Turnings(Case):
    def test_by_their_words(self):
        rng = random.Random(141)
        many = 0
        for registry, wish in cases(rng, 80):
            fitting = fitting_locks(registry, wish)
            for chosen in (fitting, fitting[:1], [lock for lock in fitting if rng.random() < 0.4]):
                locks = tuple(chosen)
                found = plain_turnings(registry, wish, locks)
                self.same(turnings(registry, wish, locks), [own for own, _ in found])
                self.same(turnings_ahead(registry, wish, locks), [own for own, is_ahead in found if is_ahead])
                self.assertTrue(all(is_beginning(own) for own, _ in found))
                many += len(found)
        self.assertGreater(many, 500)

    def test_each_other_lock_has_just_one(self):
        """It is better than the last of them exactly if that TURNING is ahead."""
        rng = random.Random(142)
        seen = 0
        for registry, wish in tame_cases(rng, 60, 400):
            fitting = fitting_locks(registry, wish)
            locks = tuple([lock for lock in fitting if rng.random() < 0.4])
            told, ahead = turnings(registry, wish, locks), turnings_ahead(registry, wish, locks)
            for lock in open_locks(registry, wish):
                having = [own for own in told if has_begun(lock, own)]
                self.assertEqual(len(having), 0 if lock in locks else 1)
                if lock in fitting and lock not in locks and locks:
                    self.assertIs(fitting.index(lock) < fitting.index(locks[-1]), having[0] in ahead)
                    seen += 1
        self.assertGreater(seen, 40)

    def test_turnings_say(self):
        self.says(AHEAD, turnings_ahead, registry=SHELF, wish=WANT, locks=(FIRST,))
        self.says([*AHEAD, SECOND], turnings, registry=SHELF, wish=WANT, locks=(FIRST,))
        self.says(AHEAD, turnings, registry=SHELF, wish=WANT, locks=BOTH)
        self.says([*AHEAD, ((APP, ONE), (LIB, ONE), (NET, None))], turnings_ahead, registry=SHELF, wish=WANT, locks=(SECOND,))
        self.says([()], turnings, registry=SHELF, wish=HARD, locks=())
        self.says([], turnings_ahead, registry=SHELF, wish=WANT, locks=())
        # Without ITEMS the empty LOCK is all there is.
        self.says([], turnings, registry=(), wish=BARE, locks=((),))
        self.says([()], turnings, registry=(), wish=BARE, locks=())
        # Pairs stand by their ITEMS, not along the ORDER.
        zoo = (("ape", ONE, (), (), (), False), ("zoo", ONE, (), (), (), False))
        wish, lock = ((("zoo", EVERY, (), YES),), (), ()), ((("zoo", ""), ONE),)
        self.says([((("zoo", ""), None),), ((("ape", ""), ONE), (("zoo", ""), ONE))], turnings, registry=zoo, wish=wish, locks=(lock,))


class Papers(Case):
    def plainly_shown(self, registry, wish, told, paper):
        return len(told) == len(paper) and all(plainly_judged(registry, wish, *row) for row in zip(paper, told))

    def test_beside_all_locks(self):
        """LOCKS are the best so many exactly if they have a RANK PAPER, all exactly if they have a FULL PAPER."""
        rng = random.Random(143)
        kinds = []
        for registry, wish in cases(rng, 60):
            fitting = fitting_locks(registry, wish)
            for chosen in (fitting, fitting[:1], fitting[:-1], [lock for lock in fitting if rng.random() < 0.5]):
                locks = tuple(chosen)
                found = plain_turnings(registry, wish, locks)
                for make, judge, told, is_so in (
                        (rank_paper, is_rank_paper, [own for own, ahead in found if ahead], list(locks) == fitting[:len(locks)]),
                        (full_paper, is_full_paper, [own for own, _ in found], list(locks) == fitting)):
                    kinds.append(is_so)
                    if not is_so:
                        with self.assertRaises(NoPaper):
                            make(registry, wish, locks)
                        continue
                    paper = make(registry, wish, locks)
                    self.assertTrue(self.plainly_shown(registry, wish, told, paper))
                    self.assertIs(judge(registry, wish, locks, paper), True)
                    self.bars(judge, [list(paper), paper + paper[:1] + (None,), paper[:-1] if paper else (None,)],
                              registry=registry, wish=wish, locks=locks)
                    if len(paper) > 1 and not self.plainly_shown(registry, wish, told, paper[::-1]):
                        self.assertIs(judge(registry, wish, locks, paper[::-1]), False)
        self.assertGreater(min(kinds.count(True), kinds.count(False)), 30)

    def test_a_paper_for_a_lock_that_is_not_best(self):
        """Then each tuple of REFUSALS fails at some TURNING."""
        rng = random.Random(144)
        seen = 0
        for registry, wish in tame_cases(rng, 60):
            fitting = fitting_locks(registry, wish)
            for lock in fitting[1:3]:
                ahead = turnings_ahead(registry, wish, (lock,))
                open_ones = [own for own in ahead if any(has_begun(other, own) for other in fitting)]
                self.assertTrue(open_ones)
                paper = tuple([("leaf", ("wish", 0, ""))] * len(ahead))
                self.assertIs(is_rank_paper(registry, wish, (lock,), paper), False)
                with self.assertRaises(NoPaper):
                    rank_paper(registry, wish, (lock,))
                seen += 1
        self.assertGreater(seen, 20)

    def test_papers_say(self):
        paper = rank_paper(SHELF, WANT, (FIRST,))
        self.assertEqual(len(paper), 4)
        self.says(paper, rank_paper, registry=SHELF, wish=WANT, locks=(FIRST,))
        self.says(full_paper(SHELF, WANT, BOTH), full_paper, registry=SHELF, wish=WANT, locks=BOTH)
        self.says((), rank_paper, registry=SHELF, wish=WANT, locks=())
        self.says((), full_paper, registry=(), wish=BARE, locks=((),))
        self.refuses(NoPaper(), full_paper, registry=SHELF, wish=WANT, locks=())
        self.refuses(NoPaper(), full_paper, registry=SHELF, wish=WANT, locks=(FIRST,))
        self.refuses(NoPaper(), rank_paper, registry=SHELF, wish=WANT, locks=(SECOND,))
        nothing = full_paper(SHELF, HARD, ())
        self.assertEqual(len(nothing), 1)
        self.knows(is_full_paper, (nothing, (refusal_of(SHELF, HARD),)), registry=SHELF, wish=HARD, locks=())

    def test_papers_with_lists_for_tuples(self):
        paper = rank_paper(SHELF, WANT, (FIRST,))
        self.says(True, is_rank_paper, registry=SHELF, wish=WANT, locks=(FIRST,), thing=paper)
        self.says(False, is_rank_paper, registry=SHELF, wish=WANT, locks=(FIRST,), thing=paper[:3])
        self.says(True, is_full_paper, registry=SHELF, wish=WANT, locks=BOTH, thing=paper)
        self.says(False, is_full_paper, registry=SHELF, wish=WANT, locks=(FIRST,), thing=paper)
        self.says(True, is_better_lock, registry=SHELF, wish=WANT, lock=SECOND, thing=FIRST)
        self.says(False, is_better_lock, registry=SHELF, wish=WANT, lock=FIRST, thing=SECOND)

    def test_papers_are_judged_strictly(self):
        paper = rank_paper(SHELF, WANT, (FIRST,))
        self.knows(is_rank_paper, (paper,), registry=SHELF, wish=WANT, locks=(FIRST,))
        self.knows(is_rank_paper, ((),), registry=SHELF, wish=WANT, locks=())
        self.bars(is_rank_paper, [*bent(paper), paper[:3], paper + paper[:1], paper[::-1]], registry=SHELF, wish=WANT, locks=(FIRST,))
        self.bars(is_full_paper, [paper, *bent(paper)], registry=SHELF, wish=WANT, locks=(FIRST,))
        self.knows(is_full_paper, (paper,), registry=as_lists(SHELF), wish=as_lists(WANT), locks=as_lists(BOTH))
        net = refusal_having(SHELF, WANT, ((LIB, TWO),))
        self.knows(is_rank_paper, (paper[:3] + (net,),), registry=SHELF, wish=WANT, locks=(FIRST,))
        self.bars(is_rank_paper, ((net,) + paper[1:], paper[:3] + (("leaf", ("wish", 0, "")),)), registry=SHELF, wish=WANT, locks=(FIRST,))


class Ranks(Case):
    def test_beside_all_locks(self):
        rng = random.Random(145)
        most = 0
        for registry, wish in cases(rng, 70):
            fitting = fitting_locks(registry, wish)
            most = max(most, len(fitting))
            for many in (0, 1, 2, len(fitting), len(fitting) + 3, 10 ** 20):
                self.same(best_locks(registry, wish, many), fitting[:many])
            for number in (-1, len(fitting), len(fitting) + 1, -10 ** 20, 10 ** 20):
                with self.assertRaises(NoPaper):
                    ranked(registry, wish, number)
            for k, lock in list(enumerate(fitting))[:12]:
                self.same(ranked(registry, wish, k), lock)
                self.same(rank_of(registry, wish, lock), k)
                for function, other in ((next_best, fitting[k + 1:k + 2]), (next_better, fitting[:k][-1:]),
                                        (better_lock, fitting[:min(k, 1)])):
                    if other:
                        self.same(function(registry, wish, lock), other[0])
                    else:
                        with self.assertRaises(NoPaper):
                            function(registry, wish, lock)
                for other in fitting[:12]:
                    self.assertIs(is_better_lock(registry, wish, lock, other), fitting.index(other) < k)
        self.assertGreater(most, 10)

    def test_turned_down(self):
        rng = random.Random(146)
        for registry, wish in cases(rng, 60):
            fitting = fitting_locks(registry, wish)
            if not fitting:
                with self.assertRaises(NoPaper):
                    turned_down(registry, wish)
                continue
            items, rows = plain_order(registry, wish)[1], []
            for begun, is_ahead in plain_turnings(registry, wish, fitting[:1]):
                if is_ahead:
                    last = max(dict(begun), key=items.index)
                    rows.append((last, dict(begun)[last]))
            self.same(turned_down(registry, wish), rows)

    def test_ranks_say(self):
        self.says([FIRST, SECOND], best_locks, registry=SHELF, wish=WANT, many=9)
        self.says([FIRST], best_locks, registry=SHELF, wish=WANT, many=1)
        self.says([], best_locks, registry=SHELF, wish=WANT, many=0)
        self.says([], best_locks, registry=SHELF, wish=HARD, many=3)
        self.says([()], best_locks, registry=(), wish=BARE, many=3)
        self.says(SECOND, ranked, registry=SHELF, wish=WANT, number=1)
        self.says(1, rank_of, registry=SHELF, wish=WANT, lock=SECOND)
        self.says(FIRST, better_lock, registry=SHELF, wish=WANT, lock=SECOND)
        self.says(SECOND, next_best, registry=SHELF, wish=WANT, lock=FIRST)
        self.says(FIRST, next_better, registry=SHELF, wish=WANT, lock=SECOND)
        self.says([(APP, None), (APP, TWO), (LIB, None), (LIB, TWO)], turned_down, registry=SHELF, wish=WANT)
        self.says([], turned_down, registry=SHELF, wish=BARE)
        self.refuses(NoPaper(), turned_down, registry=SHELF, wish=HARD)
        for number in (-1, 2, 7, -2):
            self.refuses(NoPaper(), ranked, registry=SHELF, wish=WANT, number=number)
        self.refuses(NoPaper(), ranked, registry=SHELF, wish=HARD, number=0)
        for function, lock in ((better_lock, FIRST), (next_better, FIRST), (next_best, SECOND)):
            self.refuses(NoPaper(), function, registry=SHELF, wish=WANT, lock=lock)

    def test_is_better_lock(self):
        self.knows(is_better_lock, (FIRST,), registry=SHELF, wish=WANT, lock=SECOND)
        self.bars(is_better_lock, [*bent(FIRST), SECOND, (), FIRST[:1], FIRST[::-1], (*FIRST, (("zoo", ""), ONE))],
                  registry=SHELF, wish=WANT, lock=SECOND)
        self.bars(is_better_lock, (FIRST, SECOND, ()), registry=SHELF, wish=WANT, lock=FIRST)
        for thing in ODD_THINGS:
            self.assertIs(is_better_lock(SHELF, BARE, ((LIB, ONE),), thing), repr(thing) == "()")


class Wrong(Case):
    BAD = (((),), (SECOND, FIRST), (FIRST, FIRST), (FIRST, FIRST[:1]), (((APP, ONE), (LIB, TWO)), FIRST),
           (FIRST, ((APP, (9, 0, 0, 0)),)), (((APP, ONE), (LIB, ONE), (("zoo", ""), ONE)),), (FIRST, SECOND, FIRST))

    def test_locks_that_are_unfit(self):
        for locks in self.BAD:
            for function in WITH_LOCKS:
                self.refuses(Unfit(), function, registry=SHELF, wish=WANT, locks=locks)
            for function in (is_rank_paper, is_full_paper):
                for thing in ((), None, rank_paper(SHELF, WANT, (FIRST,))):
                    self.refuses(Unfit(), function, registry=SHELF, wish=WANT, locks=locks, thing=thing)

    def test_a_lock_that_is_unfit(self):
        for lock in ((), FIRST[:1], ((APP, ONE), (LIB, TWO)), ((APP, (9, 0, 0, 0)),), (*FIRST, (("zoo", ""), ONE))):
            for function in WITH_LOCK:
                self.refuses(Unfit(), function, registry=SHELF, wish=WANT, lock=lock)
                self.refuses(Unfit(), function, registry=SHELF, wish=HARD, lock=lock)
            for thing in (FIRST, None, lock):
                self.refuses(Unfit(), is_better_lock, registry=SHELF, wish=WANT, lock=lock, thing=thing)

    def test_unfit_as_drawn(self):
        rng = random.Random(147)
        seen = 0
        for registry, wish in tame_cases(rng, 30, 100):
            fitting = fitting_locks(registry, wish)
            for lock in [*open_locks(registry, wish), *[((item, ONE),) for item in STRANGE]][:40]:
                if lock not in fitting:
                    for function in (*WITH_LOCKS, *WITH_LOCK):
                        with self.assertRaises(Unfit):
                            function(registry, wish, lock if function in WITH_LOCK else (lock,))
                    seen += 1
        self.assertGreater(seen, 100)

    def test_too_many_first_of_all(self):
        self.assertEqual((lots(WIDE, BARE), lots(WIDER, BARE)), (20000, 40000))
        bad = ((("zoo", ""), ONE),)
        for locks in ((), (bad,), ((),)):
            for function in (rank_paper, full_paper):
                self.refuses(TooMany(), function, registry=WIDER, wish=BARE, locks=locks)
        for lock in ((), bad):
            for function in WITH_LOCK:
                self.refuses(TooMany(), function, registry=WIDER, wish=BARE, lock=lock)
        for registry in (OVER, WIDER):
            self.refuses(TooMany(), best_locks, registry=registry, wish=BARE, many=0)
            self.refuses(TooMany(), ranked, registry=registry, wish=BARE, number=-1)
            self.refuses(TooMany(), turned_down, registry=registry, wish=BARE)

    def test_these_never_tell_too_many(self):
        elk = ((("elk", ""), ONE),)
        self.same(turnings_ahead(WIDER, BARE, ((),)), [])
        self.assertEqual(len(turnings_ahead(WIDER, BARE, (elk,))), 1)
        self.assertEqual(len(turnings(WIDER, BARE, ((), elk))), 4 * 4 + 5)
        self.assertIs(is_rank_paper(WIDER, BARE, ((),), ()), True)
        self.assertIs(is_full_paper(WIDER, BARE, ((),), ()), False)
        self.assertIs(is_better_lock(WIDER, BARE, elk, ()), True)
        for function in (turnings, turnings_ahead):
            self.refuses(Unfit(), function, registry=WIDER, wish=BARE, locks=(elk, ()))

    def test_just_as_many_as_allowed(self):
        found = best_locks(WIDE, BARE, 30000)
        self.assertEqual(rank_of(WIDE, BARE, found[-1]), len(found) - 1)
        self.same(ranked(WIDE, BARE, len(found) - 1), found[-1])
        paper = full_paper(WIDE, BARE, found)
        self.assertIs(is_full_paper(WIDE, BARE, tuple(found), paper), True)
        self.assertIs(is_rank_paper(WIDE, BARE, tuple(found), rank_paper(WIDE, BARE, tuple(found))), True)
        self.same(best_lock(WIDE, BARE), found[0])
        self.assertIs(has_lists(paper), False)


if __name__ == "__main__":
    unittest.main()
