"""[20]: platforms, WORDS by WORDS beside all LOCKS tried."""

import itertools
import random
import unittest

from newestfit.errors import NoPaper, TooMany
from newestfit.platforms import are_locks_for, few_locks, fitting_words, for_all, idle_words, is_family, kinds
from newestfit.platforms import lock_table, needs_counting, one_lock, one_refusal, parting_platforms, refused_words
from newestfit.platforms import words_by, words_told
from models import OVER, WIDE, WIDER, fitting_locks, made_lock, plainly_judged
from plain import by
from support import Case, EVERY, NO, ODD_THINGS, ONE, TWO, YARD, YES, as_lists, bent, has_lists, made_mark, mark_holds
from support import open_locks, plain_items, plain_states, plainly_fits, subsets

LOW, HIGH, WIN = (((0, 0, 0, -9), (2, 0, 0, -9)),), (((2, 0, 0, -9), None),), ("on", "win")
# The examples' house: its app needs gui and an old core on win, tty and a new core elsewhere.
APP = ("app", ONE, (("gui", EVERY, (), WIN), ("tty", EVERY, (), ("not", WIN)), ("core", EVERY, (), YES)), (), (), False)
HOUSE = (APP, ("core", ONE, (), (), (), False), ("core", TWO, (), (), (), False),
         ("gui", ONE, (("core", LOW, (), YES),), (), (), False), ("tty", ONE, (("core", HIGH, (), YES),), (), (), False))
MORE = HOUSE + (("tty", TWO, (), (), (), False),)
WISH, BOTH = ((("app", EVERY, (), YES),), (), ()), ((), ("win",))
GIVEN = {"registry": HOUSE, "wish": WISH, "family": BOTH}
ON_WIN, OFF_WIN = [tuple([((name, ""), version) for name, version in rows]) for rows in (
    (("app", ONE), ("core", ONE), ("gui", ONE)), (("app", ONE), ("core", TWO), ("tty", ONE)))]
WITH_BOUND = (lock_table, refused_words, parting_platforms, one_lock, one_refusal, few_locks)


def needs_of_all(registry, wish):
    rows = [(("", (), "", k), need) for k, need in enumerate(wish[0])]
    for name, version, needs, parts, _, _ in registry:
        for part, own in (("", needs), *parts):
            rows.extend([((name, version, part, k), need) for k, need in enumerate(own)])
    return rows


def marked_cases(rng, times, most=200, names=("lin", "mac", "win")):
    """Made-up triples (registry, wish, family) with many MARKS on few NAMES."""
    while times:
        def needs(many):
            return tuple([(rng.choice("abc"), rng.choice((EVERY, EVERY, LOW, HIGH)), rng.choice(((), (), ("p",))),
                           rng.choice((YES, made_mark(rng, names, 2)))) for _ in range(rng.randint(0, many))])

        registry = []
        for name, version in itertools.product("abc", (ONE, TWO, (3, 0, 0, -1))):
            if rng.random() < 0.7:
                parts = (("p", needs(1)),) if rng.random() < 0.4 else ()
                clashes = ((rng.choice("abc"), rng.choice((LOW, HIGH))),) if rng.random() < 0.2 else ()
                registry.append((name, version, needs(2), parts, clashes, rng.random() < 0.1))
        wish = (needs(2) + ((rng.choice("abc"), EVERY, (), YES),), rng.choice(((), ("win",))), rng.choice(((), ("a",))))
        family = tuple(sorted(rng.sample(subsets(names), rng.randint(1, 5))))
        many = 1
        for item in plain_items(registry, wish):
            many *= len(plain_states(registry, wish, item))
        if many <= most:
            times -= 1
            yield tuple(registry), wish, family


class Families(Case):
    def test_families(self):
        self.knows(is_family, [((),), BOTH, (("a",),), ((), ("a",), ("a", "b"), ("b",)), (("a", "b"), ("a", "c"))])
        self.bars(is_family, bent(((), ("a", "b"))))
        self.bars(is_family, [(), ("a",), (("b",), ("a",)), (("a",), ("a",)), (("a",), ()), (("b", "a"),), (("A",),), ((), None)])

    def test_words_by(self):
        self.says((("a",), ("a", "b"), ("a", "b", "c"), ("a", "c")), words_by, surely=("a",), maybe=("b", "c"))
        self.says(((),), words_by, surely=(), maybe=())
        self.says(BOTH, words_by, surely=(), maybe=("win",))
        self.says((("a", "b"),), words_by, surely=("a", "b"), maybe=())
        # What is there surely may be told twice.
        self.says((("a", "b"), ("a", "b", "z")), words_by, surely=("a", "b"), maybe=("a", "z"))
        # Ascending as tuples, not by what was put to them.
        self.says((("a", "m"), ("a", "m", "z"), ("m",), ("m", "z")), words_by, surely=("m",), maybe=("a", "z"))
        rng = random.Random(2001)
        for _ in range(60):
            surely, maybe = [tuple(sorted(rng.sample("abcdefg", rng.randint(0, 4)))) for _ in range(2)]
            expected = {tuple(sorted({*surely, *more})) for more in subsets(maybe)}
            self.same(words_by(surely, maybe), tuple(sorted(expected)))
            self.assertIs(is_family(words_by(surely, maybe)), True)


class Counting(Case):
    def test_beside_all_words(self):
        rng, idle, grouped = random.Random(2002), 0, 0
        for registry, wish, family in marked_cases(rng, 80):
            # A MARK on which little hangs.
            odd = ("any", (made_mark(rng, ("lin", "mac"), 2), YES, ("on", "mac")))
            wish = (wish[0] + (("a", EVERY, (), odd),), *wish[1:])
            rows = needs_of_all(registry, wish)
            told = words_told(registry, wish)
            names = ("lin", "mac", "win")
            counted = {words: tuple(sorted([place for place, need in rows if mark_holds(need[3], words)]))
                       for words in subsets(names)}
            for words in counted:
                self.same(needs_counting(registry, wish, words), counted[words])
            hanging = [name for name in names if any(
                counted[words] != counted[tuple(sorted({*words, name}))] for words in counted)]
            self.same(idle_words(registry, wish), tuple([name for name in told if name not in hanging]))
            self.assertLessEqual(set(hanging), set(told))
            found = {}
            for words in family:
                found.setdefault(counted[words], []).append(words)
            self.same(kinds(registry, wish, family), tuple(sorted([tuple(own) for own in found.values()])))
            idle, grouped = idle + bool(idle_words(registry, wish)), grouped + (1 < len(found) < len(family))
        self.assertGreater(min(idle, grouped), 10, (idle, grouped))

    def test_they_say(self):
        odd = (("any", (("on", "x"), ("not", ("on", "x")))), ("all", (("on", "y"), ("any", (("on", "z"), YES)))))
        registry = (("a", (1, 0, 0, -1), (("b", EVERY, (), odd[0]),), (("p", (("b", EVERY, (), odd[1]),)),), (), True),)
        wish = ((("a", EVERY, (), NO), ("a", EVERY, (), ("on", "w"))), ("v",), ())
        self.says(("w", "x", "y", "z"), words_told, registry=registry, wish=wish)
        self.says(("x", "z"), idle_words, registry=registry, wish=wish)
        # Pulled and early ones count, too; the words of the WISH itself are never looked at.
        self.says((("", (), "", 1), ("a", (1, 0, 0, -1), "", 0), ("a", (1, 0, 0, -1), "p", 0)), needs_counting,
                  registry=registry, wish=wish, words=("w", "y"))
        self.says((("a", (1, 0, 0, -1), "", 0),), needs_counting, registry=registry, wish=(wish[0], ("w", "y"), ()), words=())
        self.says((((), ("x",), ("z",)), (("w",), ("w", "z"))), kinds, registry=registry, wish=wish,
                  family=((), ("w",), ("w", "z"), ("x",), ("z",)))
        self.says((), words_told, registry=(), wish=((), ("a",), ()))
        self.says(("unix", ), words_told, registry=YARD, wish=((), (), ()))


class Tables(Case):
    def test_beside_all_locks(self):
        rng, seen = random.Random(2003), [0, 0, 0, 0]
        for registry, wish, family in marked_cases(rng, 80):
            given = (registry, wish, family)
            fitting = [fitting_locks(registry, by(wish, words)) for words in family]
            table = tuple([own[0] if own else None for own in fitting])
            self.same(lock_table(*given), table)
            self.same(refused_words(*given), tuple([words for words, own in zip(family, fitting) if not own]))
            for lock in (*table, made_lock(rng, registry, wish), ()):
                if lock is not None:
                    own = tuple([words for words in family if plainly_fits(registry, by(wish, words), lock)])
                    self.same(fitting_words(*given, lock), own)
            parted = [(one, other) for k, one in enumerate(family) for n, other in enumerate(family)
                      if k < n and table[k] != table[n]]
            if parted:
                self.same(parting_platforms(*given), min(parted))
            else:
                with self.assertRaises(NoPaper):
                    parting_platforms(*given)
            self.look_at_all(given, fitting)
            self.look_at_few(rng, given, fitting, seen)
            seen[0] += bool(parted)
        self.assertGreater(min(seen), 10, seen)

    def look_at_all(self, given, fitting):
        registry, wish, family = given
        wide, wanted = for_all(*given)
        for (place, need), (other, own) in zip(needs_of_all(registry, wish), needs_of_all(wide, wanted)):
            self.assertEqual((place, need[:3]), (other, own[:3]))
            self.assertEqual(own[3], YES if any(mark_holds(need[3], words) for words in family) else NO)
        self.assertEqual((wanted[1], wanted[2]), ((), wish[2]))
        self.assertEqual([own[:2] + own[4:] for own in wide], [own[:2] + own[4:] for own in registry])
        self.assertFalse(has_lists(for_all(*as_lists(given))))
        for lock in open_locks(registry, wish):
            every = all(plainly_fits(registry, by(wish, words), lock) for words in family)
            self.assertIs(plainly_fits(wide, wanted, lock), every)
        common = [lock for lock in fitting[0] if all(lock in own for own in fitting)]
        if common:
            # By the ORDER of the pair, in which a NEED counts if it does by some WORDS.
            self.same(one_lock(*given), fitting_locks(wide, wanted)[0])
            self.assertIn(one_lock(*given), common)
            with self.assertRaises(NoPaper):
                one_refusal(*given)
        else:
            refusal = one_refusal(*given)
            self.assertTrue(plainly_judged(wide, wanted, refusal, ()))
            self.assertFalse(has_lists(refusal))
            with self.assertRaises(NoPaper):
                one_lock(*given)

    def look_at_few(self, rng, given, fitting, seen):
        registry, wish, family = given
        for _ in range(5):
            thing = tuple([rng.choice(own) for own in fitting if own and rng.random() < 0.7])
            reached = all(any(lock in own for lock in thing) for own in fitting)
            self.assertIs(are_locks_for(*given, thing), reached)
            seen[3] += reached
        if not all(fitting):
            seen[1] += 1
            with self.assertRaises(NoPaper):
                few_locks(*given)
            return
        told = few_locks(*given)
        self.assertIs(are_locks_for(*given, told), True)
        self.assertFalse(has_lists(told))
        self.same(few_locks(*as_lists(given)), told)
        sides = {tuple([lock in own for own in fitting]) for row in fitting for lock in row}
        many = next(many for many in range(1, 6) if any(
            all(any(own) for own in zip(*chosen)) for chosen in itertools.combinations(sides, many)))
        self.assertEqual(len(told), many)
        seen[2] += 1 < many < len(family) or many == 1

    def test_they_say(self):
        self.says((OFF_WIN, ON_WIN), lock_table, **GIVEN)
        self.says((), refused_words, **GIVEN)
        self.says((("win",),), fitting_words, **GIVEN, lock=ON_WIN)
        self.says((), fitting_words, **GIVEN, lock=())
        self.says(((), ("win",)), parting_platforms, **GIVEN)
        self.refuses(NoPaper(), one_lock, **GIVEN)
        self.refuses(NoPaper(), parting_platforms, registry=HOUSE, wish=WISH, family=(("win",),))
        self.refuses(NoPaper(), parting_platforms, registry=HOUSE, wish=WISH, family=(("lin", "win"), ("win",)))
        one = ((("app", ""), ONE), (("core", ""), ONE), (("gui", ""), ONE), (("tty", ""), TWO))
        self.says(one, one_lock, registry=MORE, wish=WISH, family=BOTH)
        self.says((one,), few_locks, registry=MORE, wish=WISH, family=BOTH)
        self.refuses(NoPaper(), one_refusal, registry=MORE, wish=WISH, family=BOTH)
        self.says(ON_WIN, one_lock, registry=HOUSE, wish=WISH, family=(("win",),))
        # The WISH's own words are never looked at.
        self.says((OFF_WIN, ON_WIN), lock_table, registry=HOUSE, wish=by(WISH, ("win",)), family=BOTH)
        self.says((), fitting_words, registry=HOUSE, wish=by(WISH, ("win",)), family=((),), lock=ON_WIN)
        # Nothing fits without win: there is no tty.
        none = {"registry": HOUSE[:4], "wish": WISH, "family": BOTH}
        self.says(((),), refused_words, **none)
        self.says((None, ON_WIN), lock_table, **none)
        self.says(((), ("win",)), parting_platforms, **none)
        self.refuses(NoPaper(), few_locks, **none)
        self.knows(are_locks_for, [(OFF_WIN, ON_WIN), (ON_WIN, OFF_WIN), (ON_WIN, OFF_WIN, ON_WIN, ())], **GIVEN)
        self.bars(are_locks_for, [*bent((OFF_WIN, ON_WIN)), *ODD_THINGS, (), (ON_WIN,), (OFF_WIN,), ON_WIN], **GIVEN)

    def test_marks_that_hold_by_none_or_by_all(self):
        wish = ((("core", HIGH, (), ("on", "never")), ("core", LOW, (), ("not", ("on", "never")))), (), ())
        given = {"registry": HOUSE, "wish": wish, "family": BOTH}
        low = ((("core", ""), ONE),)
        self.says((low, low), lock_table, **given)
        self.says(low, one_lock, **given)
        self.says((low,), few_locks, **given)
        self.says((BOTH,), kinds, registry=(), wish=wish, family=BOTH)
        self.says(((HOUSE[1],), ((("core", HIGH, (), NO), ("core", LOW, (), YES)), (), ("a",))), for_all, registry=(HOUSE[1],),
                  wish=(wish[0], ("win",), ("a",)), family=BOTH)

    def test_as_few_as_can_be(self):
        """By each WORDS some of seven VERSIONS fit, whichever: as few as have one for each."""
        rng, seen = random.Random(2004), set()
        versions = tuple([(k + 1, 0, 0, 0) for k in range(7)])
        registry = tuple([("a", version, (), (), (), False) for version in versions])
        for _ in range(80):
            words = tuple([(word,) for word in "vwxyz"[:rng.randint(2, 5)]])
            fitting = [tuple(sorted(rng.sample(versions, rng.randint(1, 3)))) for _ in words]
            needs = tuple([("a", tuple([(version, (version[0], 0, 1, -9)) for version in own]), (), ("on", word))
                           for own, (word,) in zip(fitting, words)])
            told = few_locks(registry, (needs, (), ()), words)
            many = next(many for many in range(1, 6) if any(
                all(set(own) & set(chosen) for own in fitting) for chosen in itertools.combinations(versions, many)))
            self.assertEqual(len(told), many)
            self.assertIs(are_locks_for(registry, (needs, (), ()), words, told), True)
            seen.add((many, len(words)))
        self.assertGreaterEqual(len(seen), 9, seen)

    def test_three_platforms_two_locks(self):
        """Each two of three fit together, all three do not."""
        marks = [("on", word) for word in ("x", "y", "z")]
        registry = tuple([("a", (k + 1, 0, 0, 0), (), (), (), False) for k in range(3)])
        spans = [((registry[k][1], (k + 1, 0, 1, -9)),) for k in range(3)]
        needs = tuple([("a", tuple(sorted([*spans[k], *spans[(k + 1) % 3]])), (), marks[k]) for k in range(3)])
        given = {"registry": registry, "wish": (needs, (), ()), "family": (("x",), ("y",), ("z",))}
        found = few_locks(**given)
        self.assertEqual(len(found), 2)
        self.knows(are_locks_for, [found, found[::-1], found * 2], **given)
        self.refuses(NoPaper(), one_lock, **given)
        self.says((((("a", ""), (2, 0, 0, 0)),), ((("a", ""), (3, 0, 0, 0)),), ((("a", ""), (3, 0, 0, 0)),)), lock_table, **given)


class Bounds(Case):
    def test_too_many_first_of_all(self):
        bare = ((), (), ())
        for registry in (WIDER, OVER):
            for function in WITH_BOUND:
                self.refuses(TooMany(), function, registry=registry, wish=bare, family=BOTH)
            # These never tell it.
            given = {"registry": registry, "wish": bare}
            self.says((), words_told, **given)
            self.says((), idle_words, **given)
            self.says((), needs_counting, registry=(), wish=bare, words=())
            self.says((BOTH,), kinds, **given, family=BOTH)
            self.says(BOTH, fitting_words, **given, family=BOTH, lock=())
            self.assertEqual(for_all(**given, family=BOTH)[1], bare)
            self.assertIs(are_locks_for(**given, family=BOTH, thing=((),)), True)
            self.assertIs(are_locks_for(**given, family=BOTH, thing=()), False)
        self.says(((), ()), lock_table, registry=WIDE, wish=bare, family=BOTH)

    def test_early_ones_count_for_the_bound(self):
        """The bound is that of the REGISTRY and the early NAMES."""
        early = tuple([own[:1] + ((*own[1][:3], -1),) + own[2:] for own in OVER])
        self.says(((),), lock_table, registry=early, wish=((), (), ()), family=((),))
        self.refuses(TooMany(), lock_table, registry=early, wish=((), (), ("ape", "bee", "cat")), family=((),))


if __name__ == "__main__":
    unittest.main()
