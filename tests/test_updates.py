"""[15]: updates, beside all LOCKS tried by what they keep."""

import random
import unittest

from newestfit.errors import NoPaper, TooMany, Unfit
from newestfit.items import lots
from newestfit.locks import is_better
from newestfit.registry import publish
from newestfit.solve import best_lock, can_fit
from newestfit.updates import best_behind, fate, held, is_lost_paper, keeps_more, kept_states, lost, lost_paper
from newestfit.updates import refreshed, stays, unlike_states, updated
from models import OVER, STRANGE, TAME_VERSIONS, WIDE, WIDER, fitting_locks, has_begun, made_lock, made_open_lock
from models import plain_lean, plainly_judged, rank_key, tame_case, tame_cases
from plain import base_of, beginning_of, plain_kept, plainly_held
from support import Case, EARLY, EVERY, FROM_TWO, NAMES, ODD_THINGS, ONE, TWO, YES, as_lists, bent, has_lists
from support import open_locks, plain_items, small_cases

APP, LIB = ("app", ""), ("lib", "")
LAST = (1, 1, 0, 0)
ONES = ((ONE, TWO),)
SHELF = (("app", ONE, (("lib", ONES, (), YES),), (), (), False), ("app", TWO, (("lib", FROM_TWO, (), YES),), (), (), False),
         ("lib", ONE, (), (), (), False), ("lib", LAST, (), (), (), False), ("lib", TWO, (), (), (), False))
WISH, LATE, BARE = ((("app", ((ONE, None),), (), YES),), (), ()), ((("app", FROM_TWO, (), YES),), (), ()), ((), (), ())
HOPELESS = ((("app", (), (), YES),), (), ())
OLD, NEW = ((APP, ONE), (LIB, ONE)), ((APP, TWO), (LIB, TWO))
OF_OLD = (held, updated, lost)


def made_lean(registry, wish, lock):
    needed = plain_lean(registry, wish, lock)[0]
    return tuple([pair for pair in lock if pair[0] in needed])


def rows(rng, times, most=300):
    """Made-up triples (registry, wish, old)."""
    for registry, wish in [*small_cases(rng, times // 3, most), *tame_cases(rng, times, most)]:
        fitting = fitting_locks(registry, wish)
        kinds = [made_lock(rng, registry, wish, 0.8), made_open_lock(rng, registry, wish), (), *fitting[-1:]]
        # What fits another REGISTRY and WISH.
        kinds.extend(fitting_locks(registry, tame_case(rng)[1])[-2:])
        for old in kinds:
            yield registry, wish, tuple(old)


class Kept(Case):
    def test_by_all_states(self):
        rng = random.Random(151)
        for registry, wish, old in rows(rng, 60):
            row_of = plain_kept(registry, wish, old)
            for item in (*plain_items(registry, wish), *STRANGE):
                self.same(kept_states(registry, wish, old, item), row_of(registry, wish, item))
            locks, key = open_locks(registry, wish), rank_key(registry, wish, row_of)
            for _ in range(12):
                one, other = rng.choice(locks), rng.choice(locks)
                self.assertIs(keeps_more(registry, wish, old, one, other), key(one) < key(other))

    def test_kept_say(self):
        self.says((ONE, None, TWO, LAST), kept_states, registry=SHELF, wish=WISH, old=OLD, item=LIB)
        self.says((None, ONE, TWO, LAST), kept_states, registry=SHELF, wish=BARE, old=OLD, item=LIB)
        self.says((None, TWO, LAST, ONE), kept_states, registry=SHELF, wish=WISH, old=((APP, ONE), (LIB, (9, 0, 0, 0))), item=LIB)
        self.says((None, TWO, LAST, ONE), kept_states, registry=SHELF, wish=WISH, old=(), item=LIB)
        self.says((None, LAST, TWO, ONE), kept_states, registry=SHELF, wish=BARE, old=((LIB, LAST),), item=LIB)
        self.says((None,), kept_states, registry=SHELF, wish=WISH, old=((("zoo", ""), ONE),), item=("zoo", ""))
        self.says(True, keeps_more, registry=SHELF, wish=WISH, old=OLD, one=OLD, other=NEW)
        self.says(True, keeps_more, registry=SHELF, wish=WISH, old=OLD, one=OLD, other=())
        self.says(False, keeps_more, registry=SHELF, wish=BARE, old=OLD, one=OLD, other=())
        self.says(False, keeps_more, registry=SHELF, wish=WISH, old=(), one=OLD, other=NEW)
        self.says(False, keeps_more, registry=SHELF, wish=WISH, old=OLD, one=OLD, other=OLD)
        for bad in (((LIB, EARLY),), ((("zoo", ""), ONE),), ((("lib", "p"), ONE),)):
            self.refuses(Unfit(), keeps_more, registry=SHELF, wish=WISH, old=OLD, one=bad, other=OLD)
            self.refuses(Unfit(), keeps_more, registry=SHELF, wish=WISH, old=OLD, one=OLD, other=bad)
            # What is not open in old is no matter.
            self.says(True, keeps_more, registry=SHELF, wish=BARE, old=bad, one=(), other=OLD)


class Held(Case):
    def test_beside_all_locks(self):
        rng = random.Random(152)
        seen, lost_ones = 0, 0
        for registry, wish, old in rows(rng, 60):
            kept = plainly_held(registry, wish, old)
            if kept is None:
                for function in OF_OLD:
                    with self.assertRaises(NoPaper):
                        function(registry, wish, old)
                continue
            base, update = base_of(registry, wish, old), made_lean(registry, wish, kept)
            self.same(held(registry, wish, old), kept)
            self.same(updated(registry, wish, old), update)
            gone = [item for item in sorted(base) if dict(kept).get(item) != base[item]]
            self.same(lost(registry, wish, old), tuple(gone))
            for names in ((), NAMES, tuple(rng.sample(NAMES, 1)), ("zoo",)):
                other = made_lean(registry, wish, plainly_held(registry, wish, old, names))
                self.same(refreshed(registry, wish, old, names), other)
            for item, version in old:
                told = "lost" if item in gone else "kept" if dict(update).get(item) == version else "needless"
                self.same(fate(registry, wish, old, item), told)
            # Of the update, as old, the update is itself.
            self.same(updated(registry, wish, update), update)
            if old in fitting_locks(registry, wish):
                self.same(held(registry, wish, old), made_lean(registry, wish, old))
                self.same(update, made_lean(registry, wish, old))
                self.assertEqual(gone, [])
            seen, lost_ones = seen + 1, lost_ones + len(gone)
        self.assertGreater(seen, 100)
        self.assertGreater(lost_ones, 25)

    def test_held_say(self):
        self.says(OLD, held, registry=SHELF, wish=WISH, old=OLD)
        self.says(NEW, held, registry=SHELF, wish=WISH, old=())
        self.says(NEW, updated, registry=SHELF, wish=LATE, old=OLD)
        self.says((), updated, registry=SHELF, wish=BARE, old=OLD)
        self.says(NEW, updated, registry=SHELF, wish=WISH, old=((APP, (9, 0, 0, 0)), (("zoo", "x"), ONE)))
        self.says(((APP, ONE), (LIB, LAST)), refreshed, registry=SHELF, wish=WISH, old=OLD, names=("lib",))
        self.says(NEW, refreshed, registry=SHELF, wish=WISH, old=OLD, names=("app", "lib"))
        # Without app its lib stays as long as it can; app then is the newest that lets it.
        self.says(NEW, refreshed, registry=SHELF, wish=WISH, old=OLD, names=("app",))
        self.says(OLD, refreshed, registry=SHELF, wish=WISH, old=OLD, names=("zoo",))
        self.says(OLD, refreshed, registry=SHELF, wish=WISH, old=OLD, names=())
        self.says((APP, LIB), lost, registry=SHELF, wish=LATE, old=OLD)
        self.says((), lost, registry=SHELF, wish=WISH, old=OLD)
        self.says((), lost, registry=SHELF, wish=BARE, old=((APP, (9, 0, 0, 0)),))
        self.says((APP,), lost, registry=SHELF, wish=WISH, old=((APP, (9, 0, 0, 0)), (LIB, (9, 0, 0, 0))))

    def test_fates_say(self):
        more = (*OLD, (("zoo", ""), ONE))
        for wish, old, item, told in ((LATE, OLD, APP, "lost"), (LATE, OLD, LIB, "lost"), (WISH, OLD, APP, "kept"),
                                      (WISH, more, ("zoo", ""), "needless"), (BARE, OLD, LIB, "needless"),
                                      (LATE, ((APP, TWO), (LIB, ONE)), APP, "kept"),
                                      (WISH, ((APP, (9, 0, 0, 0)), (LIB, TWO)), LIB, "kept")):
            self.says(told, fate, registry=SHELF, wish=wish, old=old, item=item)
        self.refuses(Unfit(), fate, registry=SHELF, wish=WISH, old=OLD, item=("zoo", ""))
        self.refuses(Unfit(), fate, registry=SHELF, wish=HOPELESS, old=OLD, item=("lib", "p"))
        self.refuses(NoPaper(), fate, registry=SHELF, wish=HOPELESS, old=OLD, item=LIB)

    def test_nothing_fits(self):
        for registry, wish in ((SHELF, HOPELESS), ((), WISH)):
            for function in OF_OLD:
                self.refuses(NoPaper(), function, registry=registry, wish=wish, old=OLD)
            self.refuses(NoPaper(), refreshed, registry=registry, wish=wish, old=OLD, names=("lib",))
            for item in (LIB, ("zoo", "")):
                self.refuses(NoPaper(), lost_paper, registry=registry, wish=wish, old=OLD, item=item)
                for thing in (None, ("leaf", ("wish", 0, ""))):
                    self.refuses(NoPaper(), is_lost_paper, registry=registry, wish=wish, old=OLD, item=item, thing=thing)


class Papers(Case):
    def test_beside_all_locks(self):
        rng = random.Random(153)
        seen, out = 0, 0
        for registry, wish, old in rows(rng, 60):
            fitting = fitting_locks(registry, wish)
            if not fitting:
                continue
            kept, base = plainly_held(registry, wish, old), base_of(registry, wish, old)
            for item in (*dict(old), ("zoo", "x")):
                if item not in base or dict(kept).get(item) == base[item]:
                    out += 1
                    with self.assertRaises(NoPaper):
                        lost_paper(registry, wish, old, item)
                    with self.assertRaises(NoPaper):
                        is_lost_paper(registry, wish, old, item, ())
                    continue
                begun = beginning_of(registry, wish, kept, base, item)
                self.assertFalse(any(has_begun(lock, begun) for lock in fitting))
                paper = lost_paper(registry, wish, old, item)
                self.assertTrue(plainly_judged(registry, wish, paper, begun))
                self.assertIs(is_lost_paper(registry, wish, old, item, paper), True)
                for leaf in (("wish", 0, ""), ("none", item, EVERY)):
                    self.assertIs(is_lost_paper(registry, wish, old, item, ("leaf", leaf)),
                                  plainly_judged(registry, wish, ("leaf", leaf), begun))
                seen += 1
        self.assertGreater(min(seen, out), 40)

    def test_papers_say(self):
        for item in (APP, LIB):
            paper = lost_paper(SHELF, LATE, OLD, item)
            self.says(paper, lost_paper, registry=SHELF, wish=LATE, old=OLD, item=item)
            self.assertIs(is_lost_paper(SHELF, LATE, OLD, item, paper), True)
            self.bars(is_lost_paper, list(bent(paper)), registry=SHELF, wish=LATE, old=OLD, item=item)
        wished, asked = ("leaf", ("wish", 0, "")), ("leaf", ("need", APP, TWO, 0, ""))
        self.says(True, is_lost_paper, registry=SHELF, wish=LATE, old=OLD, item=LIB, thing=asked)
        self.says(False, is_lost_paper, registry=SHELF, wish=LATE, old=OLD, item=APP, thing=asked)
        self.knows(is_lost_paper, (wished,), registry=SHELF, wish=LATE, old=OLD, item=APP)
        self.knows(is_lost_paper, (asked,), registry=as_lists(SHELF), wish=as_lists(LATE), old=as_lists(OLD), item=list(LIB))
        self.bars(is_lost_paper, (wished,), registry=SHELF, wish=LATE, old=OLD, item=LIB)
        self.bars(is_lost_paper, (asked, ("leaf", ("wish", 1, ""))), registry=SHELF, wish=LATE, old=OLD, item=APP)
        for item in (APP, LIB, ("zoo", "")):
            self.refuses(NoPaper(), lost_paper, registry=SHELF, wish=WISH, old=OLD, item=item)
            for thing in (*ODD_THINGS[:5], wished):
                self.refuses(NoPaper(), is_lost_paper, registry=SHELF, wish=WISH, old=OLD, item=item, thing=thing)
        # A VERSION that nobody has any more.
        gone = ((APP, (9, 0, 0, 0)),)
        self.knows(is_lost_paper, (lost_paper(SHELF, WISH, gone, APP), ("leaf", ("none", APP, (((3, 0, 0, 0), None),)))),
                   registry=SHELF, wish=WISH, old=gone, item=APP)


class Changes(Case):
    def test_unlike_states(self):
        rng = random.Random(154)
        for _ in range(100):
            registry, wish = tame_case(rng)
            one, other = made_lock(rng, registry, wish), made_lock(rng, registry, wish)
            told = [(item, dict(one).get(item), dict(other).get(item)) for item in sorted({**dict(one), **dict(other)})]
            self.same(unlike_states(one, other), tuple([row for row in told if row[1] != row[2]]))
        self.says(((APP, ONE, TWO), (LIB, ONE, TWO)), unlike_states, one=OLD, other=NEW)
        self.says(((LIB, None, ONE),), unlike_states, one=OLD[:1], other=OLD)
        self.says(((LIB, ONE, None), (("zoo", ""), None, TWO)), unlike_states, one=OLD[1:], other=((("zoo", ""), TWO),))
        self.says((), unlike_states, one=OLD, other=OLD)
        self.says((), unlike_states, one=(), other=())

    def test_best_behind(self):
        rng = random.Random(155)
        kinds = []
        for registry, wish in tame_cases(rng, 120, 150):
            there = [own[:2] for own in registry]
            fresh = [own for own in tame_case(rng)[0] if own[:2] not in there]
            for release in fresh[:2]:
                name, version = release[:2]
                more = publish(registry, release)
                if lots(more, wish) > 1000:
                    continue
                fitting, before = fitting_locks(more, wish), (fitting_locks(registry, wish) or [None])[0]
                behind = fitting[0] if fitting else None
                self.same(best_behind(registry, wish, release), behind)
                self.assertIs(stays(registry, wish, release), behind == before)
                # The best LOCK stays, or the best one has this RELEASE.
                self.assertTrue(behind == before or ((name, ""), version) in behind)
                kinds.append(behind == before)
        self.assertGreater(min(kinds.count(True), kinds.count(False)), 15)

    def test_behind_says(self):
        newer = ("app", (3, 0, 0, 0), (), (), (), False)
        self.says(((APP, (3, 0, 0, 0)),), best_behind, registry=SHELF, wish=WISH, release=newer)
        self.says(False, stays, registry=SHELF, wish=WISH, release=newer)
        self.says(NEW, best_behind, registry=SHELF, wish=WISH, release=(*newer[:5], True))
        self.says(True, stays, registry=SHELF, wish=WISH, release=(*newer[:5], True))
        self.says(None, best_behind, registry=SHELF, wish=HOPELESS, release=newer)
        self.says(True, stays, registry=SHELF, wish=HOPELESS, release=newer)
        self.says(False, stays, registry=(), wish=WISH, release=newer)
        for function in (best_behind, stays):
            self.refuses(Unfit(), function, registry=SHELF, wish=WISH, release=SHELF[0])
            self.refuses(Unfit(), function, registry=WIDER, wish=BARE, release=(*WIDER[0][:5], True))

    def test_too_many(self):
        old = ((("ape", ""), ONE), (("zoo", ""), ONE))
        for function in OF_OLD:
            self.refuses(TooMany(), function, registry=WIDER, wish=BARE, old=old)
            self.refuses(TooMany(), function, registry=OVER, wish=BARE, old=())
            self.refuses(TooMany(), function, registry=WIDER, wish=((("zoo", (), (), YES),), (), ()), old=old)
        self.refuses(TooMany(), refreshed, registry=WIDER, wish=BARE, old=old, names=())
        for item in (("ape", ""), ("zoo", "p")):
            self.refuses(TooMany(), fate, registry=WIDER, wish=BARE, old=old, item=item)
            self.refuses(TooMany(), lost_paper, registry=WIDER, wish=BARE, old=old, item=item)
            self.refuses(TooMany(), is_lost_paper, registry=WIDER, wish=BARE, old=old, item=item, thing=None)
        # By the REGISTRY with release.
        elk = ("elk", ONE, (), (), (), False)
        for function in (best_behind, stays):
            self.refuses(TooMany(), function, registry=WIDE, wish=BARE, release=elk)
            self.refuses(TooMany(), function, registry=WIDER, wish=BARE, release=("elk", TWO, (), (), (), False))
        self.says((), best_behind, registry=WIDE, wish=BARE, release=(*elk[:5], True))
        self.says(True, stays, registry=WIDE, wish=BARE, release=(*elk[:5], True))
        # These three never tell it.
        self.same(kept_states(WIDER, BARE, old, ("elk", "")), (None, ONE))
        self.assertIs(keeps_more(WIDER, BARE, old, (), old[:1]), True)
        self.same(unlike_states(old, ()), tuple([(*pair, None) for pair in old]))

    def test_just_as_many_as_allowed(self):
        wish = ((("dog", EVERY, (), YES), ("bee", EVERY, ("p",), YES)), (), ())
        old = ((("ape", ""), TWO), (("bee", ""), ONE), (("bee", "p"), ONE), (("dog", ""), TWO), (("elk", ""), ONE))
        self.same(updated(WIDE, wish, old), old[:4])
        self.same(fate(WIDE, wish, old, ("elk", "")), "needless")
        self.same(refreshed(WIDE, wish, old, ("ape",))[0], (("ape", ""), (4, 0, 0, 0)))
        self.assertIs(has_lists(updated(as_lists(WIDE), as_lists(wish), as_lists(old))), False)
        self.assertIs(is_better(WIDE, wish, best_lock(WIDE, wish), old[:4]), True)
        self.assertIs(can_fit(WIDE, wish), True)
        self.assertEqual(len(TAME_VERSIONS), 4)


if __name__ == "__main__":
    unittest.main()
