"""How long the longest inputs within the bounds of [17] to [24] take; each row well under its limit, so that a slow
machine does not matter."""

import random
import unittest

from newestfit.errors import NoPaper, TooMany
from newestfit.items import lots
from newestfit.judge import is_claim, is_paper, is_so, not_so, paper, shows, words_so
from newestfit.least import blame, clashing, core, core_paper, cores, drop, drop_paper, drops, fewest_dropped
from newestfit.least import is_core_paper, is_drop_paper, least_meets, loosened
from newestfit.locks import fits
from newestfit.plans import all_ahead, arrows, goes_with, is_plan, is_tie, knots, one_by_one, plan, tie, why_arrow
from newestfit.platforms import few_locks, for_all, idle_words, kinds, lock_table, needs_counting, one_lock, one_refusal
from newestfit.platforms import parting_platforms, refused_words, words_by, words_told
from newestfit.reasons import after_pull, asks, asks_to_drop, falls_with, harm, hurt, in_each_way, is_ask_drop
from newestfit.reasons import must_refusal, must_releases, way_to, ways_apart
from newestfit.shell import first_shell, session, worked
from newestfit.store import bad_cut, blank_disk, clean_steps, cut_disks, end_disks, install_steps, is_safe, is_writing
from newestfit.store import mended, needless_steps, read_locks, room_changes, undo_steps, written
from newestfit.texts import lock_changed, lock_changes, lock_text, lock_turned, read_lock, read_need, read_registry
from newestfit.texts import read_wish, registry_text, wish_text
from large import SIX, colours, full_registry
from models import WIDE, wide_registry
from support import Case, EVERY, NAMES, ONE, TWO, YES, as_lists

BARE = ((), (), ())
THREE = ((1, 0, 0, 0), (2, 0, 0, 0), (3, 0, 0, 0))
SYNC = ("sync",)


def long_small_case(rng, clashing=True):
    """A small REGISTRY with as much of everything as is allowed, that mostly much fits, and a WISH."""
    registry = []
    for name in NAMES:
        for version in THREE:
            def needs(many):
                return tuple([(rng.choice(NAMES), ((version, None),), ("p",) if rng.random() < 0.3 else (), ("any", tuple(
                    [("on", word) for word in rng.sample("abcd", 3)]))) for _ in range(many)])

            clashes = tuple([(rng.choice(NAMES), (((9, 0, 0, 0), None),)) for _ in range(2)])
            registry.append((name, version, needs(3), (("p", needs(2)),), clashes if clashing else (), False))
    return tuple(registry), (tuple([(name, EVERY, (), YES) for name in NAMES]), ("a", "b"), ())


class LongInputs(Case):
    def test_asks(self):
        wide = tuple([(name, EVERY, (), YES) for name in NAMES])
        parts = ((("ape", "p"), ONE), (("ape", "q"), TWO), (("cat", "p"), (3, 0, 0, 0)))
        registry, wish = colours()
        pairs = tuple([((name, ""), (k + 1, 0, 0, 0)) for k, name in enumerate(SIX[:3])])
        last = ("zoo", ONE, (), (), (("yak", EVERY), ("zoo", EVERY)), False)
        nowhere = wide_registry({"ape": ("p", "q"), "bee": ("p",)}) + (("yak", ONE, (("zoo", EVERY, (), YES),), (), (), False), last)
        hard = tuple([(name, EVERY, (), YES) for name in ("ape", "bee", "dog", "yak")])
        for given in ((WIDE, (wide, (), ()), parts), (registry, wish, pairs), (nowhere, (hard, (), ()), pairs)):
            for function in (core, drop, cores, drops, fewest_dropped, blame):
                self.timed(function, *given)
            least = self.timed(blame, *given)
            own = self.timed(core_paper, *given, least)
            self.assertIs(self.timed(is_core_paper, *given, own), True)
            own = self.timed(drop_paper, *given, self.timed(fewest_dropped, *given))
            self.assertIs(self.timed(is_drop_paper, *given, own), True)
            self.assertIs(self.timed(clashing, *given, tuple(range(7))), True)
        self.assertEqual(self.timed(loosened, WIDE, (wide, (), ()), parts), (5, 6))
        rng = random.Random(2501)
        for _ in range(20):
            self.timed(least_meets, tuple([tuple(sorted(rng.sample(range(8), rng.randint(1, 5)))) for _ in range(8)]))

    def test_plans(self):
        """Six changed NAMES in the largest REGISTRY, all NEEDS of its own age."""
        rng = random.Random(2502)
        registry = []
        for name in SIX:
            for number in range(1, 5):
                span = (((number, 0, 0, 0), (number, 0, 1, -9)),) if number < 3 else EVERY

                def needs(many):
                    return tuple([(rng.choice(SIX), span, ("p", "q"), YES) for _ in range(many)])

                registry.append((name, (number, 0, 0, 0), needs(3), (("p", needs(2)), ("q", needs(2))), (("zoo", EVERY),) * 2, False))
        registry = tuple(registry)
        near, far = [tuple([((name, part), own) for name in SIX for part in ("", "p", "q")]) for own in (ONE, TWO)]
        given = (registry, (tuple([(name, EVERY, ("p", "q"), YES) for name in SIX[:4]]), (), ()), near, far)
        for function in (arrows, all_ahead, knots, one_by_one, plan, tie):
            self.timed(function, *given)
        self.timed(goes_with, *given, "ape")
        self.timed(why_arrow, *given, *self.timed(arrows, *given)[0])
        self.assertIs(self.timed(is_plan, *given, plan(*given)), True)
        self.assertIs(self.timed(is_tie, *given, tie(*given)), True)
        free = tuple([(name, own, (), (), (), False) for name in SIX for own in (ONE, TWO)])
        plain = (free, BARE, *[tuple([((name, ""), own) for name in SIX]) for own in (ONE, TWO)])
        self.assertEqual(len(self.timed(all_ahead, *plain)), 64)
        self.assertEqual(len(self.timed(plan, *plain)), 6)

    def test_store(self):
        disk = blank_disk(8, 8)
        lock = tuple([((name, part), ONE) for name in NAMES for part in ("", "p")])
        done = written(disk, self.timed(install_steps, disk, lock))
        other = tuple([((name, part), TWO) for name in SIX[:4] for part in ("", "q")])
        steps = self.timed(install_steps, done, other)
        self.assertEqual(len(self.timed(room_changes, done, other)), 8)
        for function in (mended, clean_steps, undo_steps):
            self.timed(function, done)
        with self.assertRaises(TooMany):
            self.timed(is_safe, done, steps, other)
        few = lock[:6] + (((("zoo", "")), ONE),)
        writing = self.timed(install_steps, done, few)
        self.assertIs(self.timed(is_safe, done, writing, few), True)
        # As many DISKS in each stretch as are allowed, in 40 steps.
        puts = [("put", ("room", k), ("has", (name, ""), TWO)) for k, name in enumerate(SIX)]
        many = [("put", ("note", k), ("note", n, (), ())) for k in range(3) for n in range(8)]
        writing = tuple(many + [SYNC] + puts + [SYNC] + [own[:2] + ((),) for own in puts] + [SYNC, ("put", ("head", 0), ())])
        self.assertEqual((len(writing), is_writing(disk, writing)), (40, True))
        self.assertEqual(len(self.timed(cut_disks, disk, writing)), 1000 + 3 ** 6)
        for function in (end_disks, read_locks):
            self.timed(function, disk, writing)
        self.timed(bad_cut, disk, writing, lock)
        five = tuple([step for k in range(6) for step in (*puts[:5], SYNC)] + [("put", ("head", 0), ())])
        self.assertEqual(self.timed(needless_steps, disk, five[:10], ()), ())
        crowded = tuple([step for _ in range(3) for step in (*[own[:2] + ((),) for own in puts], *puts)] + [SYNC] * 4)
        self.assertEqual(len(crowded), 40)
        self.timed(needless_steps, disk, crowded, lock)

    def test_platforms(self):
        rng, family = random.Random(2503), words_by((), ("a", "b", "c", "d"))
        self.assertEqual(len(family), 16)
        for _ in range(3):
            registry, wish = long_small_case(rng)
            given = (registry, wish)
            while lots(*given) > 20000:
                # A part less, as long as there are too many.
                k = rng.randrange(len(registry))
                registry = (*registry[:k], (*registry[k][:3], (), *registry[k][4:]), *registry[k + 1:])
                given = (registry, wish)
            for function in (words_told, idle_words):
                self.timed(function, *given)
            for function in (kinds, lock_table, refused_words, for_all):
                self.timed(function, *given, family)
            self.timed(needs_counting, *given, ("a", "d"))
            for function in (one_lock, one_refusal, few_locks, parting_platforms):
                try:
                    self.timed(function, *given, family[3:8])
                    if function is not few_locks:
                        self.timed(function, *given, family)
                except NoPaper:
                    pass

    def test_reasons(self):
        rng = random.Random(2504)
        names = NAMES
        registry = tuple([(name, own, tuple([(other, EVERY, ("p",), YES) for other in rng.sample(names, 3)]),
                           (("p", tuple([(other, EVERY, ("p",), YES) for other in rng.sample(names, 2)])),), (), False)
                          for name in names for own in THREE[:2]])
        wish = (tuple([(name, EVERY, ("p",), YES) for name in names]), (), ())
        lock = tuple([((name, part), TWO) for name in names for part in ("", "p")])
        self.assertIs(fits(registry, wish, lock), True)
        self.timed(asks, registry, wish, lock)
        for item, _ in lock:
            for function in (way_to, ways_apart, asks_to_drop, in_each_way, falls_with):
                self.timed(function, registry, wish, lock, item)
            own = asks_to_drop(registry, wish, lock, item)
            self.assertIs(self.timed(is_ask_drop, registry, wish, lock, item, own), True)
            self.assertEqual(len(own), len(ways_apart(registry, wish, lock, item)))
        for function in (after_pull, harm):
            self.timed(function, registry, wish, "ape", TWO)
        self.timed(hurt, registry, (wish, BARE, wish, BARE, wish, wish), "ape", TWO)
        self.assertEqual(self.timed(must_releases, registry, wish), ())
        single = tuple([own for own in registry if own[:2] != ("ape", ONE)])
        self.assertIn(("ape", TWO), self.timed(must_releases, single, wish))
        self.timed(must_refusal, single, wish, "ape", TWO)

    def test_claims(self):
        registry, wish = colours()
        pairs = tuple([((name, ""), (k + 1, 0, 0, 0)) for k, name in enumerate(SIX[:3])])
        hopeless = (("solved", registry, wish), ("begun", registry, wish, pairs), ("core", registry, wish, pairs, (4,)),
                    ("everywhere", registry, wish, words_by((), ("a", "b", "c", "d"))))
        lock = ((("ape", ""), ONE),)
        last = tuple(sorted([((name, ""), (4, 0, 0, 0)) for name in NAMES]))
        free = tuple([own[:2] + ((), (), (), False) for own in registry])
        wanted = (tuple([(name, EVERY, (), YES) for name in NAMES]), (), ())
        others = (("best", free, wanted, last), ("lost", free, wanted, last, ("dog", "")), ("single", free, BARE, (), lock))
        for claim in hopeless + others:
            self.assertIs(self.timed(is_claim, claim), True)
            so = self.timed(is_so, claim)
            own = self.timed(paper, claim)
            self.assertIs(self.timed(shows, claim, own), so)
            self.assertIs(self.timed(is_paper, claim, own), True)
        self.assertEqual(self.timed(not_so, hopeless + others[:2]), (0, 1, 3, 5))
        self.assertEqual(self.timed(words_so, hopeless[2:] + others), ("best", "core", "single"))

    def test_texts(self):
        rng = random.Random(2505)
        registry, wish = full_registry(rng)
        text = self.timed(registry_text, registry)
        self.assertGreater(len(text.split("\n")), 250)
        self.assertEqual(self.timed(read_registry, text), registry)
        self.assertEqual(self.timed(read_wish, self.timed(wish_text, wish)), wish)
        lock = tuple(sorted([((name, part), ONE) for name in SIX for part in ("", "p", "q")]))
        self.assertEqual(self.timed(read_lock, self.timed(lock_text, lock)), lock)
        changes = self.timed(lock_changes, (), lock)
        self.assertEqual(self.timed(lock_changed, (), changes), lock)
        self.timed(lock_turned, changes)
        longest = "a " + "|".join([">=10.10.10,<10.10.20"] * 9) + " if x"
        self.assertEqual(len(longest), 195)
        self.timed(read_need, longest)
        lines = "\n".join([f"release a {k}.0.0\n need {longest}" for k in range(30)])
        self.assertEqual(len(self.timed(read_registry, lines)), 30)

    def test_shell(self):
        registry, wish = long_small_case(random.Random(2506), False)
        registry = tuple([own if own[1] != ONE else own[:3] + ((),) + own[4:] for own in registry if own[:2] != ("dog", TWO)])
        self.assertLess(lots(registry, wish), 20001)
        rows = ["\n ".join(["registry", *registry_text(registry).split("\n")]), "\n ".join(["wish", *wish_text(wish).split("\n")])]
        rows += ["lock", "install", "status", "blame", "why ape", "keep", "word a", "lock", "cut 9", "mend", "undo", "redo"] * 3
        text = "\n".join(rows[:40])
        shell, replies = self.timed(session, first_shell(), text)
        self.assertEqual(len(replies), 38)
        self.timed(session, as_lists(shell), "\n".join(["undo"] * 20 + ["redo"] * 20))
        self.timed(worked, as_lists(shell), "lock")


if __name__ == "__main__":
    unittest.main()
