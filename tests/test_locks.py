"""[10]: LOCKS, beside the rows of [3] and rounds of the tests' own."""

import random
import unittest

from newestfit.errors import Unfit
from newestfit.locks import by_names, faults, first_fault, first_other, fits, from_names, is_better, is_lean, is_lock
from newestfit.locks import is_met, lean, needed, state_of, with_state
from models import STRANGE, fitting_locks, just_one, made_lock, made_open_lock, plain_lean, plain_leaf, plain_leaves
from models import rank_key, tame_cases
from support import APP, Case, EARLY, EVERY, FROM_TWO, NEW, NO, OLD, ONE, PARTS, TWO, YARD, YES, bent, has_lists
from support import made_need, made_registry, made_wish, open_locks, plain_items, plain_order, plainly_better
from support import plainly_fits, plainly_met, plainly_open, small_cases

APP_ITEM, LIB, FAST, NET, WEB = ("app", ""), ("lib", ""), ("lib", "fast"), ("net", ""), ("app", "web")
WISH = ((("app", EVERY, ("web",), YES), ("net", EVERY, (), ("on", "win"))), ("unix",), ("net",))
BARE = ((), (), ())
GOOD = ((APP_ITEM, ONE), (LIB, ONE), (FAST, ONE))
PLAIN_WISH = ((("app", EVERY, (), YES),), (), ())
# A RELEASE that clashes with itself, with what is nowhere, and with a part's NAME.
SELF = ("own", ONE, (), (("p", ()),), (("own", EVERY), ("ghost", EVERY), ("lib", FROM_TWO)), False)


def plain_faults(registry, wish, lock):
    """The faults kind by kind: all LEAVES that LOCK meets, put in order by keys."""
    there = dict(lock)
    found = [("none", item, just_one(version)) for item, version in lock
             if not plainly_open(registry, wish[2], item, version)]
    met = [leaf for leaf in plain_leaves(registry, wish)
           if all(test(there.get(item)) for item, test in plain_leaf(registry, wish, leaf))]
    for kind, key in (("part", lambda leaf: leaf[1]), ("wish", lambda leaf: leaf[1:]),
                      ("need", lambda leaf: (leaf[1], leaf[3:])), ("clash", lambda leaf: (leaf[1], leaf[3]))):
        found.extend(sorted([leaf for leaf in met if leaf[0] == kind], key=key))
    return found


class Kinds(Case):
    def test_is_lock(self):
        good = ((), GOOD, ((NET, EARLY),), ((("a", ""), ONE), (("a", "b"), TWO), (("b", ""), (0, 0, 0, -9))))
        self.knows(is_lock, good)
        for lock in good:
            self.bars(is_lock, list(bent(lock)))
        self.bars(is_lock, (GOOD[::-1], GOOD[:1] * 2, ((LIB, ONE), (LIB, TWO)), ((LIB, None),), ((LIB, (1, 0, 0)),),
                            ((LIB,),), ((LIB, ONE, ONE),), (LIB, ONE), (("", ONE),), ((("lib", None), ONE),),
                            ((("lib", ""), (1, 0, 0, 1)),), ((FAST, ONE), (LIB, ONE)), "lock", ({}, {})))


class States(Case):
    def test_by_a_dict(self):
        rng = random.Random(101)
        for _ in range(150):
            registry, wish = made_registry(rng), made_wish(rng)
            lock = made_lock(rng, registry, wish)
            for item in (*plain_items(registry, wish), *STRANGE):
                self.same(state_of(lock, item), dict(lock).get(item))
                for state in (None, ONE, (9, 0, 0, -1)):
                    there = {**dict(lock), item: state}
                    rows = tuple(sorted([pair for pair in there.items() if pair[1] is not None]))
                    self.same(with_state(lock, item, state), rows)
            for _ in range(5):
                need = made_need(rng)
                self.same(is_met(lock, need), plainly_met(lock, need))

    def test_states_say(self):
        self.says(ONE, state_of, lock=GOOD, item=LIB)
        self.says(None, state_of, lock=GOOD, item=NET)
        self.says(None, state_of, lock=(), item=LIB)
        self.says(((APP_ITEM, ONE), (LIB, TWO), (FAST, ONE)), with_state, lock=GOOD, item=LIB, state=TWO)
        self.says(GOOD[:2], with_state, lock=GOOD, item=FAST, state=None)
        self.says(GOOD, with_state, lock=GOOD, item=NET, state=None)
        self.says(((WEB, TWO), *GOOD[1:]), with_state, lock=GOOD[1:], item=WEB, state=TWO)
        self.says(((LIB, EARLY),), with_state, lock=(), item=LIB, state=EARLY)

    def test_is_met_says(self):
        for need, met in ((("lib", EVERY, (), YES), True), (("lib", EVERY, ("fast",), YES), True),
                          (("lib", EVERY, ("fast",), NO), True), (("lib", FROM_TWO, (), YES), False),
                          (("lib", (), (), YES), False), (("lib", EVERY, ("fast", "slow"), YES), False),
                          (("net", EVERY, (), NO), False), (("net", (), (), NO), False)):
            self.says(met, is_met, lock=GOOD, need=need)
        # A part in another VERSION is there, too; a part without its release meets nothing.
        self.says(True, is_met, lock=((LIB, ONE), (FAST, TWO)), need=("lib", just_one(ONE), ("fast",), YES))
        self.says(False, is_met, lock=((FAST, ONE),), need=("lib", EVERY, ("fast",), YES))


class Faults(Case):
    def test_by_the_leaves(self):
        rng = random.Random(102)
        kinds = []
        for _ in range(250):
            registry, wish = made_registry(rng, chance=0.5), made_wish(rng)
            for lock in (made_lock(rng, registry, wish, rng.random()), made_open_lock(rng, registry, wish), ()):
                expected = plain_faults(registry, wish, lock)
                self.same(faults(registry, wish, lock), expected)
                self.same(first_fault(registry, wish, lock), expected[0] if expected else None)
                self.assertIs(fits(registry, wish, lock), plainly_fits(registry, wish, lock))
                self.assertIs(expected == [], plainly_fits(registry, wish, lock))
                kinds.extend([fault[0] for fault in expected])
        self.assertEqual(set(kinds), {"none", "part", "wish", "need", "clash"})
        self.assertGreater(min(map(kinds.count, kinds)), 30)

    def test_all_open_locks(self):
        """A LOCK fits exactly if it has no fault: all of open VERSIONS tried by the rows."""
        for registry, wish in small_cases(random.Random(103), 25, 150):
            for lock in open_locks(registry, wish):
                self.assertIs(fits(registry, wish, lock), plainly_fits(registry, wish, lock))

    def test_faults_say(self):
        full = (*GOOD[:1], (WEB, ONE), *GOOD[1:], (NET, EARLY))
        self.says([("need", NET, EARLY, 0, "")], faults, registry=YARD, wish=WISH, lock=full)
        self.says([("wish", 0, ""), ("wish", 0, "web")], faults, registry=YARD, wish=WISH, lock=())
        self.says([], faults, registry=YARD, wish=BARE, lock=())
        self.says([], faults, registry=YARD, wish=BARE, lock=GOOD)
        self.says([("none", LIB, just_one((3, 0, 0, 0))), ("none", FAST, just_one(TWO)), ("none", NET, just_one(EARLY)),
                   ("part", WEB, ONE), ("wish", 0, "")], faults, registry=YARD, wish=PLAIN_WISH,
                  lock=((WEB, ONE), (LIB, (3, 0, 0, 0)), (FAST, TWO), (NET, EARLY)))
        # NEW clashes with each net, open or not.
        self.says([("need", NET, EARLY, 0, ""), ("clash", "lib", TWO, 0)], faults, registry=YARD,
                  wish=((), (), ("net",)), lock=((LIB, TWO), (NET, EARLY)))
        self.says([("none", NET, just_one(EARLY)), ("clash", "lib", TWO, 0)], faults, registry=YARD, wish=BARE,
                  lock=((LIB, TWO), (NET, EARLY)))
        self.says(("need", NET, EARLY, 0, ""), first_fault, registry=YARD, wish=WISH, lock=full)
        self.says(None, first_fault, registry=YARD, wish=BARE, lock=GOOD)
        self.says(False, fits, registry=YARD, wish=WISH, lock=full)
        self.says(True, fits, registry=YARD, wish=BARE, lock=())

    def test_pulled_early_and_clashes_say(self):
        shut = (APP, OLD, (*NEW[:5], True))
        self.says([("none", LIB, just_one(TWO))], faults, registry=shut, wish=BARE, lock=((LIB, TWO),))
        self.says([("none", NET, just_one(EARLY))], faults, registry=YARD, wish=BARE, lock=((LIB, ONE), (NET, EARLY)))
        own = ("own", "")
        self.says([("clash", "own", ONE, 0), ("clash", "own", ONE, 2)], faults, registry=(*YARD, SELF), wish=BARE,
                  lock=((LIB, TWO), (own, ONE)))
        self.says([("none", ("ghost", ""), just_one(ONE)), ("clash", "own", ONE, 0), ("clash", "own", ONE, 1)], faults,
                  registry=(*YARD, SELF), wish=BARE, lock=((("ghost", ""), ONE), (own, ONE)))
        # The part alone does not clash; it lacks its release.
        self.says([("part", ("own", "p"), ONE)], faults, registry=(*YARD, SELF), wish=BARE,
                  lock=((LIB, TWO), (("own", "p"), ONE)))

    def test_marks_that_do_not_hold(self):
        web = ((APP_ITEM, ONE), (WEB, ONE), (LIB, ONE), (FAST, ONE))
        self.says([], faults, registry=YARD, wish=(WISH[0], (), ()), lock=web)
        self.says([("need", WEB, ONE, 0, "")], faults, registry=YARD, wish=WISH, lock=web)
        self.says([("wish", 1, "")], faults, registry=YARD, wish=(WISH[0], ("win",), ()), lock=web)


class Needed(Case):
    def test_by_rounds(self):
        rng = random.Random(104)
        longest = 0
        for _ in range(300):
            registry, wish = made_registry(rng, chance=0.6), made_wish(rng)
            for lock in (made_lock(rng, registry, wish, 0.9), made_open_lock(rng, registry, wish)):
                found, rounds = plain_lean(registry, wish, lock)
                kept = tuple([pair for pair in lock if pair[0] in found])
                self.same(needed(registry, wish, lock), tuple(sorted(found)))
                self.same(lean(registry, wish, lock), kept)
                self.assertIs(is_lean(registry, wish, lock), kept == lock)
                self.assertLessEqual(rounds, len(plain_order(registry, wish)[1]))
                longest = max(longest, rounds)
        self.assertGreater(longest, 2)

    def test_needed_say(self):
        web = ((APP_ITEM, ONE), (WEB, ONE), (LIB, ONE), (NET, EARLY))
        self.says((APP_ITEM, WEB, ("ghost", ""), LIB, FAST, NET), needed, registry=YARD, wish=WISH, lock=web)
        self.says((APP_ITEM, WEB, LIB, FAST, NET), needed, registry=YARD, wish=(WISH[0], ("unix",), ()), lock=web)
        self.says((APP_ITEM, WEB), needed, registry=YARD, wish=WISH, lock=())
        self.says((APP_ITEM, WEB), needed, registry=YARD, wish=WISH, lock=((APP_ITEM, TWO), (LIB, ONE)))
        self.says((), needed, registry=YARD, wish=BARE, lock=web)
        self.says(web, lean, registry=YARD, wish=WISH, lock=web)
        self.says(((APP_ITEM, (7, 0, 0, 0)),), lean, registry=YARD, wish=PLAIN_WISH,
                  lock=((APP_ITEM, (7, 0, 0, 0)), (LIB, ONE)))
        self.says((), lean, registry=YARD, wish=BARE, lock=web)
        self.says(True, is_lean, registry=YARD, wish=WISH, lock=web)
        self.says(False, is_lean, registry=YARD, wish=PLAIN_WISH, lock=web)
        self.says(True, is_lean, registry=YARD, wish=BARE, lock=())
        # A needed part brings its release, also where the part's NEED does not name it.
        self.says((("elk", ""), ("elk", "x")), needed, registry=(), wish=((("elk", (), ("x",), YES),), (), ()), lock=())

    def test_what_fits_made_lean(self):
        changed = 0
        for registry, wish in tame_cases(random.Random(105), 40, 1500):
            fitting = fitting_locks(registry, wish)
            for lock in fitting:
                kept = lean(registry, wish, lock)
                self.assertIs(fits(registry, wish, kept), True)
                self.assertIs(is_lean(registry, wish, kept), True)
                self.same(needed(registry, wish, kept), needed(registry, wish, lock))
                other = first_other(registry, wish, kept, lock)
                if kept != lock:
                    self.assertIs(is_better(registry, wish, kept, lock), True)
                    self.assertIs(state_of(kept, other), None)
                    changed += 1
                else:
                    self.assertIs(other, None)
            if fitting:
                self.assertIs(is_lean(registry, wish, fitting[0]), True)
        self.assertGreater(changed, 100)


class Better(Case):
    def test_by_the_order(self):
        rng = random.Random(106)
        for registry, wish in tame_cases(rng, 60, 150):
            locks = open_locks(registry, wish)
            items, key = plain_order(registry, wish)[1], rank_key(registry, wish)
            for _ in range(30):
                one, other = rng.choice(locks), rng.choice(locks)
                unlike = [item for item in items if dict(one).get(item) != dict(other).get(item)]
                self.same(first_other(registry, wish, one, other), unlike[0] if unlike else None)
                self.same(is_better(registry, wish, one, other), plainly_better(registry, wish, one, other))
                self.assertEqual(is_better(registry, wish, one, other), key(one) < key(other))
                if one != other:
                    self.assertNotEqual(is_better(registry, wish, one, other), is_better(registry, wish, other, one))

    def test_better_says(self):
        two = ((LIB, TWO),)
        self.says(LIB, first_other, registry=YARD, wish=BARE, one=GOOD[1:], other=two)
        self.says(APP_ITEM, first_other, registry=YARD, wish=BARE, one=GOOD, other=two)
        self.says(None, first_other, registry=YARD, wish=BARE, one=GOOD, other=GOOD)
        self.says(None, first_other, registry=(), wish=BARE, one=(), other=())
        self.says(True, is_better, registry=YARD, wish=BARE, one=two, other=GOOD[1:])
        self.says(False, is_better, registry=YARD, wish=BARE, one=GOOD[1:], other=two)
        self.says(True, is_better, registry=YARD, wish=BARE, one=(), other=two)
        self.says(False, is_better, registry=YARD, wish=BARE, one=two, other=two)
        # The NAMES that the WISH needs come first.
        self.says(NET, first_other, registry=YARD, wish=((("net", EVERY, (), YES),), (), ("net",)), one=GOOD,
                  other=((NET, EARLY),))

    def test_what_is_not_open(self):
        for bad in (((LIB, (3, 0, 0, 0)),), ((FAST, TWO),), ((NET, EARLY),), ((("ghost", ""), ONE),), ((("elk", ""), ONE),)):
            for function in (first_other, is_better):
                self.refuses(Unfit(), function, registry=YARD, wish=BARE, one=bad, other=())
                self.refuses(Unfit(), function, registry=YARD, wish=BARE, one=(), other=bad)
                self.refuses(Unfit(), function, registry=YARD, wish=BARE, one=bad, other=bad)


class Names(Case):
    def test_there_and_back(self):
        rng = random.Random(107)
        told = 0
        for _ in range(300):
            registry, wish = made_registry(rng), made_wish(rng)
            lock = made_lock(rng, registry, wish)
            lock = tuple([(item, dict(lock).get((item[0], ""), version)) for item, version in lock])
            if any(item[1] and dict(lock).get((item[0], "")) is None for item, _ in lock):
                with self.assertRaises(Unfit):
                    by_names(lock)
                continue
            rows = {item[0]: (item[0], version, tuple([own[1] for own, _ in lock if own[0] == item[0] and own[1]]))
                    for item, version in lock}
            self.same(by_names(lock), tuple([rows[name] for name in sorted(rows)]))
            self.same(from_names(by_names(lock)), lock)
            told += 1
        self.assertGreater(told, 30)

    def test_names_say(self):
        self.says((("app", ONE, ()), ("lib", ONE, ("fast",))), by_names, lock=GOOD)
        self.says((), by_names, lock=())
        self.says((("a", ONE, ("p", "q")),), by_names, lock=((("a", ""), ONE), (("a", "p"), ONE), (("a", "q"), ONE)))
        for lock in (((FAST, ONE),), ((LIB, TWO), (FAST, ONE)), ((("a", ""), ONE), (("a", "p"), ONE), (("b", "p"), ONE)),
                     ((("a", "p"), ONE), (("b", ""), ONE))):
            self.refuses(Unfit(), by_names, lock=lock)
        self.says(GOOD, from_names, rows=(("app", ONE, ()), ("lib", ONE, ("fast",))))
        self.says((), from_names, rows=())
        for rows in ((("lib", ONE, ()), ("app", ONE, ())), (("lib", ONE, ()), ("lib", ONE, ())),
                     (("lib", ONE, ()), ("lib", TWO, ("fast",))), (("lib", ONE, ("b", "a")),), (("lib", ONE, ("a", "a")),)):
            self.refuses(Unfit(), from_names, rows=rows)

    def test_made_of_tuples(self):
        for told in (with_state([[["lib", ""], [1, 0, 0, 0]]], ["app", ""], [2, 0, 0, 0]),
                     lean(list(YARD), list(WISH), [[["app", ""], [1, 0, 0, 0]]]), from_names([["a", [1, 0, 0, 0], ["p"]]]),
                     needed(list(YARD), list(WISH), []), by_names([[["a", ""], [1, 0, 0, 0]], [["a", "p"], [1, 0, 0, 0]]])):
            self.assertIs(has_lists(told), False)
            self.assertIs(type(told), tuple)


if __name__ == "__main__":
    unittest.main()
