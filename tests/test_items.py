"""[9]: ITEMS, beside rounds and loops of the tests' own."""

import itertools
import random
import unittest

from newestfit.errors import NoName, NoRelease, Unfit
from newestfit.items import asked_by, closes, closing, counting, is_item, lock_ranked, lots, name_order, needs_of, order
from newestfit.items import order_place, ranks, reached, states, targets
from support import APP, Case, EARLY, EVERY, FEW_VERSIONS, FROM_TWO, NAMES, NET, NO, ONE, PARTS, TWO, YARD, YES, bent
from support import made_registry, made_wish, mark_holds, open_locks, plain_needs, plain_order, plain_states
from support import plain_targets, plainly_better, plainly_fits, plainly_holds, plainly_open, small_cases

WISH = ((("app", EVERY, ("web",), YES), ("net", EVERY, (), ("on", "win"))), ("unix",), ("net",))
BARE = ((), (), ())
RING = ("ring", ONE, (("ring", EVERY, ("a",), YES),),
        (("a", (("ring", EVERY, ("b",), YES),)), ("b", (("ring", EVERY, ("a", "none"), ("on", "x")),
                                                        ("app", (), (), YES)))),
        (), False)


def plain_closing(registry, wish, item, version):
    """Round by round, until nothing comes any more."""
    found = {item, (item[0], "")}
    while True:
        more = set(found)
        for own in found:
            more |= plain_targets(plain_needs(registry, own, version), wish[1], item[0])
        if more == found:
            return found
        found = more


def plainly_closes(registry, wish, item, version):
    items = plain_closing(registry, wish, item, version)
    needs = [need for own in items for need in plain_needs(registry, own, version)
             if need[0] == item[0] and mark_holds(need[3], wish[1])]
    return (all(plainly_open(registry, wish[2], own, version) for own in items)
            and all(plainly_holds(need[1], version) for need in needs))


def plain_reached(registry, wish):
    found = plain_targets(wish[0], wish[1])
    while True:
        more = found | {(name, "") for name, _ in found}
        for own in found:
            for release in registry:
                if release[0] == own[0] and plainly_open(registry, wish[2], own, release[1]):
                    more |= plain_targets(plain_needs(registry, own, release[1]), wish[1])
        if more == found:
            return found
        found = more


class Kinds(Case):
    def test_is_item(self):
        self.knows(is_item, (("a", ""), ("a", "b"), ("lib", "fast"), ("b", "a"), ("a", "a"), ("on", "a"), ("on", ""),
                             ("not", "a")))
        for item in (("lib", ""), ("lib", "fast")):
            self.bars(is_item, [own for own in bent(item)])
        self.bars(is_item, (("", ""), ("", "a"), ("a", None), ("a", "A"), ("a", "b", "c"), ("a",), "ab", ("A", ""),
                            ("a", ("b",))))

    def test_targets_and_counting(self):
        self.says((("lib", ""),), targets, need=("lib", (), (), NO))
        self.says((("lib", ""), ("lib", "a"), ("lib", "b")), targets, need=("lib", EVERY, ("a", "b"), YES))
        self.says((0,), counting, wish=WISH)
        self.says((1,), counting, wish=((("a", EVERY, (), NO), ("b", (), (), ("not", ("on", "x")))), ("y",), ("a",)))
        self.says((), counting, wish=BARE)
        rng = random.Random(41)
        for _ in range(100):
            wish = made_wish(rng)
            self.same(counting(wish), tuple([k for k in range(len(wish[0])) if mark_holds(wish[0][k][3], wish[1])]))


class Needs(Case):
    def test_by_plain_loops(self):
        rng = random.Random(42)
        for _ in range(100):
            registry, wish = made_registry(rng), made_wish(rng)
            for name, part, version in itertools.product(NAMES, ("", *PARTS), FEW_VERSIONS):
                self.look_at(registry, wish, (name, part), version)

    def look_at(self, registry, wish, item, version):
        mine = [own for own in registry if own[0] == item[0]]
        there = [own for own in mine if own[1] == version]
        given = (registry, item, version)
        more = (registry, wish, item, version)
        error = NoName if not mine else NoRelease if not there else Unfit
        if there and item[1] in ["", *dict(there[0][3])]:
            needs = plain_needs(*given)
            self.same(needs_of(*given), needs)
            self.same(asked_by(*more), tuple([need for need in needs if mark_holds(need[3], wish[1])]))
            self.same(closing(*more), tuple(sorted(plain_closing(*more))))
            self.same(closes(*more), plainly_closes(*more))
            return
        for function, arguments in ((needs_of, given), (asked_by, more), (closing, more), (closes, more)):
            with self.assertRaises(error):
                function(*arguments)

    def test_needs_say(self):
        self.says(APP[2], needs_of, registry=YARD, item=("app", ""), version=ONE)
        self.says(APP[3][0][1], needs_of, registry=YARD, item=("app", "web"), version=ONE)
        self.says((), needs_of, registry=YARD, item=("lib", "fast"), version=ONE)
        self.says(NET[2], needs_of, registry=YARD, item=("net", ""), version=EARLY)
        self.says(APP[3][0][1], asked_by, registry=YARD, wish=WISH, item=("app", "web"), version=ONE)
        self.says((), asked_by, registry=YARD, wish=BARE, item=("app", "web"), version=ONE)

    def test_closings_say(self):
        ring, both = (RING,), (("ring", ""), ("ring", "a"), ("ring", "b"))
        unix, on_x = ((), ("unix",), ()), ((), ("x",), ())
        for item in (("ring", ""), ("ring", "a"), ("ring", "b")):
            self.says(both, closing, registry=ring, wish=unix, item=item, version=ONE)
            self.says(True, closes, registry=ring, wish=unix, item=item, version=ONE)
            self.says((("ring", ""), ("ring", "a"), ("ring", "b"), ("ring", "none")), closing,
                      registry=ring, wish=on_x, item=item, version=ONE)
            self.says(False, closes, registry=ring, wish=on_x, item=item, version=ONE)
        self.says((("lib", ""), ("lib", "fast")), closing, registry=YARD, wish=BARE, item=("lib", "fast"), version=ONE)
        self.says(True, closes, registry=YARD, wish=BARE, item=("lib", "fast"), version=ONE)
        self.says((("net", ""),), closing, registry=YARD, wish=BARE, item=("net", ""), version=EARLY)
        self.says(False, closes, registry=YARD, wish=BARE, item=("net", ""), version=EARLY)
        self.says(True, closes, registry=YARD, wish=WISH, item=("net", ""), version=EARLY)
        narrow = (("gear", ONE, (("gear", FROM_TWO, (), ("on", "x")), ("app", (), (), YES)), (), (), False),
                  ("gear", TWO, (("gear", FROM_TWO, (), ("on", "x")),), (), (), True))
        self.says(True, closes, registry=narrow, wish=unix, item=("gear", ""), version=ONE)
        self.says(False, closes, registry=narrow, wish=on_x, item=("gear", ""), version=ONE)
        self.says(False, closes, registry=narrow, wish=on_x, item=("gear", ""), version=TWO)
        self.says((("gear", ""),), closing, registry=narrow, wish=on_x, item=("gear", ""), version=TWO)

    def test_errors_in_their_order(self):
        for item, version, error in ((("ghost", "x"), (9, 0, 0, 0), NoName("ghost")),
                                     (("lib", "x"), (9, 0, 0, 0), NoRelease((9, 0, 0, 0))),
                                     (("lib", "fast"), TWO, Unfit()), (("lib", "x"), ONE, Unfit()),
                                     (("net", ""), ONE, NoRelease(ONE))):
            self.refuses(error, needs_of, registry=YARD, item=item, version=version)
            for function in (asked_by, closing, closes):
                self.refuses(error, function, registry=YARD, wish=WISH, item=item, version=version)


class Orders(Case):
    def test_by_plain_loops(self):
        rng = random.Random(43)
        for _ in range(150):
            registry, wish = made_registry(rng), made_wish(rng)
            names, items = plain_order(registry, wish)
            self.same(name_order(registry, wish), names)
            self.same(order(registry, wish), items)
            self.same(reached(registry, wish), tuple(sorted(plain_reached(registry, wish))))
            for place, item in enumerate(items):
                self.same(order_place(registry, wish, item), place)
            many = 1
            for item in itertools.product((*NAMES, "elk"), ("", *PARTS, "r")):
                self.same(states(registry, wish, item), plain_states(registry, wish, item))
                many *= len(plain_states(registry, wish, item))
                if item not in items:
                    self.same(states(registry, wish, item), (None,))
                    with self.assertRaises(Unfit):
                        order_place(registry, wish, item)
            self.same(lots(registry, wish), many)

    def test_orders_say(self):
        self.says(("app", "ghost", "lib", "net"), name_order, registry=YARD, wish=WISH)
        self.says((("app", ""), ("app", "web"), ("ghost", ""), ("lib", ""), ("lib", "fast"), ("net", "")), order,
                  registry=YARD, wish=WISH)
        self.says(("zoo", "net", "app", "bar", "ghost", "lib"), name_order, registry=YARD,
                  wish=((("zoo", EVERY, (), YES), ("bar", EVERY, (), NO), ("net", (), (), YES), ("zoo", (), (), YES)),
                        (), ("elk",)))
        self.says((), name_order, registry=(), wish=((), ("a",), ("b",)))
        self.says((), order, registry=(), wish=((), ("a",), ("b",)))
        self.says((("lib", ""), ("lib", "a"), ("lib", "b"), ("app", "")), order,
                  registry=(("app", ONE, (("lib", (), ("b",), NO),), (), (), True),),
                  wish=((("lib", (), ("a",), YES),), (), ()))
        self.says((("a", ""), ("b", "")), order, registry=(("b", ONE, (), (), (("a", ()),), False),), wish=BARE)
        self.says(5, order_place, registry=YARD, wish=WISH, item=("net", ""))
        self.says(0, order_place, registry=YARD, wish=WISH, item=("app", ""))
        self.refuses(Unfit(), order_place, registry=YARD, wish=WISH, item=("net", "fast"))
        self.refuses(Unfit(), order_place, registry=YARD, wish=WISH, item=("elk", ""))

    def test_states_and_lots_say(self):
        self.says((None, TWO, ONE), states, registry=YARD, wish=WISH, item=("lib", ""))
        self.says((None, EARLY), states, registry=YARD, wish=WISH, item=("net", ""))
        self.says((None,), states, registry=YARD, wish=BARE, item=("net", ""))
        self.says((None,), states, registry=YARD, wish=BARE, item=("elk", "z"))
        self.says(48, lots, registry=YARD, wish=WISH)
        self.says(24, lots, registry=YARD, wish=BARE)
        self.says(1, lots, registry=(), wish=WISH)

    def test_reached_says(self):
        everything = (("app", ""), ("app", "web"), ("ghost", ""), ("lib", ""), ("lib", "fast"), ("net", ""))
        self.says(everything, reached, registry=YARD, wish=WISH)
        self.says(everything[:2] + everything[3:5], reached, registry=YARD, wish=(WISH[0], (), ()))
        self.says(everything[:2] + everything[3:], reached, registry=YARD, wish=(WISH[0], ("unix",), ()))
        self.says((), reached, registry=YARD, wish=BARE)
        self.says((), reached, registry=YARD, wish=((("app", EVERY, (), NO),), (), ()))
        self.says((("elk", ""), ("elk", "x")), reached, registry=YARD, wish=((("elk", (), ("x",), YES),), (), ()))
        self.says((("app", ""), ("ring", ""), ("ring", "a"), ("ring", "b")), reached, registry=(RING,),
                  wish=((("ring", EVERY, (), YES),), (), ()))


class Ranks(Case):
    def test_there_and_back(self):
        rng = random.Random(44)
        for registry, wish in small_cases(rng, 40, 150):
            found = {}
            for lock in open_locks(registry, wish):
                lock = tuple(sorted(lock))
                places = ranks(registry, wish, lock)
                self.same(lock_ranked(registry, wish, places), lock)
                found[places] = lock
            self.assertEqual(len(found), lots(registry, wish))
            sizes = [len(plain_states(registry, wish, item)) for item in plain_order(registry, wish)[1]]
            self.assertEqual(sorted(found), list(itertools.product(*[range(size) for size in sizes])))
            for _ in range(60):
                one, other = rng.choice(sorted(found)), rng.choice(sorted(found))
                self.assertEqual(one < other, plainly_better(registry, wish, found[one], found[other]))

    def test_ranks_say(self):
        self.says((0, 0, 0, 1, 0, 0), ranks, registry=YARD, wish=WISH, lock=((("lib", ""), TWO),))
        self.says((1, 0, 0, 2, 1, 1), ranks, registry=YARD, wish=WISH,
                  lock=((("app", ""), ONE), (("lib", ""), ONE), (("lib", "fast"), ONE), (("net", ""), EARLY)))
        self.says((0,) * 6, ranks, registry=YARD, wish=WISH, lock=())
        for lock in (((("elk", ""), ONE),), ((("lib", "fast"), TWO),), ((("lib", ""), (3, 0, 0, 0)),),
                     ((("net", "x"), EARLY),),
                     ((("ghost", ""), ONE),), ((("app", ""), ONE), (("zoo", ""), ONE))):
            self.refuses(Unfit(), ranks, registry=YARD, wish=WISH, lock=lock)
        self.refuses(Unfit(), ranks, registry=YARD, wish=BARE, lock=((("net", ""), EARLY),))

    def test_lock_ranked_says(self):
        self.says(((("app", ""), ONE), (("lib", ""), ONE)), lock_ranked, registry=YARD, wish=WISH,
                  places=(1, 0, 0, 2, 0, 0))
        self.says((), lock_ranked, registry=YARD, wish=WISH, places=(0,) * 6)
        self.says((), lock_ranked, registry=(), wish=BARE, places=())
        back = ((("zoo", EVERY, (), YES),), (), ())
        zoo = (("ape", ONE, (), (), (), False), ("zoo", ONE, (), (), (), False))
        self.says(((("ape", ""), ONE), (("zoo", ""), ONE)), lock_ranked, registry=zoo, wish=back, places=(1, 1))
        self.says(((("zoo", ""), ONE),), lock_ranked, registry=zoo, wish=back, places=(1, 0))
        for places in ((), (0,) * 5, (0,) * 7, (2, 0, 0, 0, 0, 0), (0, 0, 1, 0, 0, 0), (0, 0, 0, 3, 0, 0),
                       (-1, 0, 0, 0, 0, 0),
                       (0, 0, 0, 0, 0, -1), (0, 0, 0, 10 ** 30, 0, 0)):
            self.refuses(Unfit(), lock_ranked, registry=YARD, wish=WISH, places=places)


class Guarantees(Case):
    def test_locks_that_fit(self):
        rng = random.Random(45)
        closings = 0
        for registry, wish in small_cases(rng, 80, 200):
            here = set(reached(registry, wish))
            fitting = [lock for lock in open_locks(registry, wish) if plainly_fits(registry, wish, lock)]
            for lock in fitting:
                for item, version in lock:
                    for own in closing(registry, wish, item, version):
                        self.assertIn((own, version), lock)
                        closings += 1
                    self.assertIs(closes(registry, wish, item, version), True)
                kept = tuple([pair for pair in lock if pair[0] in here])
                self.assertTrue(plainly_fits(registry, wish, kept))
            if fitting:
                best = min(fitting, key=lambda lock: ranks(registry, wish, tuple(sorted(lock))))
                self.assertTrue(all(item in here for item, _ in best))
        self.assertGreater(closings, 200)


if __name__ == "__main__":
    unittest.main()
