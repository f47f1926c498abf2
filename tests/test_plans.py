"""[18]: from one LOCK to another, beside the LOCK at each set of changed NAMES and all orders of them."""

import itertools
import random
import unittest

from newestfit.errors import NoName, NoPaper, Unfit
from newestfit.plans import all_ahead, arrows, changed, goes_with, is_plan, is_tie, keeps_ahead, knots, lock_then
from newestfit.plans import one_by_one, plan, tie, why_arrow
from models import WIDER, fitting_locks, made_lock, tame_cases
from plain import HIGH, LOW, MILD, NEWER, OLDER, STALL, led_to, plain_arrows, plain_lock, plainly_changed, woven_case
from support import Case, EVERY, NO, ODD_THINGS, ONE, TWO, YES, as_lists, bent, has_lists, plainly_fits, small_cases
from support import subsets

GIVEN = {"registry": STALL, "wish": MILD, "near": OLDER, "far": NEWER}
OF_BOTH = (arrows, all_ahead, knots, plan, one_by_one, tie)
HUB_LEAF = ("need", ("hub", ""), TWO, 0, "")


def rows(rng, times):
    """Made-up quadruples (registry, wish, near, far), both LOCKS fitting."""
    for registry, wish in [*small_cases(rng, times // 2, 200), *tame_cases(rng, times, 200)]:
        fitting = fitting_locks(registry, wish)
        for _ in range(min(3, len(fitting))):
            yield registry, wish, rng.choice(fitting), rng.choice(fitting)
    for _ in range(2 * times):
        own = woven_case(rng, rng.randint(2, 5))
        yield own
        yield own[0], own[1], own[3], own[2]


class Locks(Case):
    def test_changed_and_the_lock_at_a_set(self):
        rng = random.Random(1801)
        for registry, wish in tame_cases(rng, 40):
            near, far = made_lock(rng, registry, wish), made_lock(rng, registry, wish)
            names = plainly_changed(near, far)
            self.same(changed(near, far), names)
            for own in subsets(names):
                self.same(lock_then(near, far, own), plain_lock(near, far, own))
            self.same(lock_then(near, far, names), far)

    def test_they_say(self):
        self.says(("hub", "ink", "pen"), changed, near=OLDER, far=NEWER)
        self.says((), changed, near=OLDER, far=OLDER)
        self.says(("hub",), changed, near=OLDER, far=OLDER[1:])
        # A part alone changes its NAME.
        self.says(("hub",), changed, near=OLDER, far=tuple(sorted(OLDER + ((("hub", "p"), ONE),))))
        self.says((OLDER[0], NEWER[1], OLDER[2]), lock_then, near=OLDER, far=NEWER, names=("ink",))
        self.says(OLDER, lock_then, near=OLDER, far=NEWER, names=())
        self.says((), lock_then, near=OLDER[:1], far=(), names=("hub",))
        self.refuses(NoName("gun"), lock_then, near=OLDER, far=NEWER, names=("gun", "hub", "zoo"))
        self.refuses(NoName("ink"), lock_then, near=OLDER, far=(OLDER[0], OLDER[1], NEWER[2]), names=("ink", "pen"))


class Arrows(Case):
    def test_beside_leaves_and_fits(self):
        rng, seen = random.Random(1802), [0, 0]
        for registry, wish, near, far in rows(rng, 24):
            given, found = (registry, wish, near, far), plain_arrows(registry, wish, near, far)
            names = plainly_changed(near, far)
            self.same(arrows(*given), tuple(sorted(found)))
            for x, y in itertools.product(names, names):
                self.same(why_arrow(*given, x, y), found.get((x, y), []))
            # From far to near all are turned about.
            self.same(arrows(registry, wish, far, near), tuple(sorted([(y, x) for x, y in found])))
            ahead = []
            for own in subsets(names):
                keeps = all(y in own for x, y in found if x in own)
                self.assertIs(keeps_ahead(*given, own), keeps)
                self.assertIs(plainly_fits(registry, wish, plain_lock(near, far, own)), keeps)
                ahead.extend([own] if keeps else [])
            self.same(all_ahead(*given), sorted(ahead))
            for name in names:
                least = min([own for own in ahead if name in own], key=len)
                self.same(goes_with(*given, name), least)
            seen = [seen[0] + bool(found), seen[1] + any(leaf[0] == "clash" for own in found.values() for leaf in own)]
        self.assertGreater(min(seen), 20, seen)

    def test_they_say(self):
        self.says((("hub", "pen"), ("ink", "pen"), ("pen", "ink")), arrows, **GIVEN)
        self.says([HUB_LEAF], why_arrow, **GIVEN, x="hub", y="pen")
        self.says([], why_arrow, **GIVEN, x="pen", y="hub")
        self.says([], why_arrow, **GIVEN, x="hub", y="hub")
        self.says(True, keeps_ahead, **GIVEN, names=("ink", "pen"))
        self.says(False, keeps_ahead, **GIVEN, names=("hub",))
        self.says(True, keeps_ahead, **GIVEN, names=())
        self.says([(), ("hub", "ink", "pen"), ("ink", "pen")], all_ahead, **GIVEN)
        self.says(("hub", "ink", "pen"), goes_with, **GIVEN, name="hub")
        self.says(("ink", "pen"), goes_with, **GIVEN, name="pen")

    def test_several_leaves_make_one(self):
        both = ("hub", TWO, (("pen", HIGH, ("p",), YES), ("pen", EVERY, (), NO)), (("q", (("pen", HIGH, (), YES),)),),
                (("pen", LOW),), False)
        registry = (STALL[0], both, ("pen", ONE, (), (), (), False), ("pen", TWO, (), (("p", ()),), (), False))
        near = ((("hub", ""), ONE), (("pen", ""), ONE))
        far = ((("hub", ""), TWO), (("hub", "q"), TWO), (("pen", ""), TWO), (("pen", "p"), TWO))
        given = {"registry": registry, "wish": MILD, "near": near, "far": far}
        self.says([("clash", "hub", TWO, 0), ("need", ("hub", ""), TWO, 0, ""), ("need", ("hub", ""), TWO, 0, "p"),
                   ("need", ("hub", "q"), TWO, 0, "")], why_arrow, **given, x="hub", y="pen")
        self.says((("hub", "pen"),), arrows, **given)
        self.says((("pen", "hub"),), arrows, registry=registry, wish=MILD, near=far, far=near)

    def test_something_new_and_something_gone(self):
        registry = (("a", ONE, (), (), (), False), ("a", TWO, (("b", EVERY, (), YES),), (), (), False),
                    ("b", ONE, (), (), (), False), ("c", ONE, (), (), (("b", EVERY),), False))
        wish = ((("a", EVERY, (), YES),), (), ())
        near, far = ((("a", ""), ONE), (("c", ""), ONE)), ((("a", ""), TWO), (("b", ""), ONE))
        given = {"registry": registry, "wish": wish, "near": near, "far": far}
        # a wants b there, b wants c gone.
        self.says((("a", "b"), ("b", "c")), arrows, **given)
        self.says((("c",), ("b",), ("a",)), plan, **given)
        self.says((("a",), ("b",), ("c",)), plan, registry=registry, wish=wish, near=far, far=near)
        self.says(True, one_by_one, **given)


class Plans(Case):
    def test_beside_all_orders(self):
        rng, seen = random.Random(1803), [0, 0, 0]
        for registry, wish, near, far in rows(rng, 24):
            given, found = (registry, wish, near, far), plain_arrows(registry, wish, near, far)
            names = plainly_changed(near, far)
            behind = {name: led_to(found, name) for name in names}
            own = sorted({tuple([y for y in names if y in behind[x] and x in behind[y]]) for x in names})
            self.same(knots(*given), own)
            self.assertIs(one_by_one(*given), all(len(knot) == 1 for knot in own))
            self.same(plan(*given), self.plain_plan(found, own))
            plans = [row for row in self.chains(registry, wish, near, far, names)]
            self.assertEqual(max([len(row) for row in plans]), len(own))
            for row in plans[:40]:
                self.assertIs(is_plan(*given, row), True)
                self.assertIs(is_plan(registry, wish, far, near, row[::-1]), True)
                self.assertTrue(all(any(set(knot) <= set(part) for part in row) for knot in own))
            for row in itertools.islice(itertools.permutations(names), 40):
                ones = tuple([(name,) for name in row])
                self.assertIs(is_plan(*given, ones), ones in plans)
            seen = [seen[0] + (len(own) > 1), seen[1] + (len(plans) > 2), seen[2] + any(len(knot) > 1 for knot in own)]
        self.assertGreater(min(seen), 20, seen)

    def plain_plan(self, found, own):
        done, rest = [], list(own)
        while rest:
            for knot in rest:
                inside = {*knot, *[name for row in done for name in row]}
                if all(y in inside for x, y in found if x in knot):
                    break
            done.append(knot)
            rest.remove(knot)
        return tuple(done)

    def chains(self, registry, wish, near, far, names):
        """All PLANS, of few NAMES, by the LOCK at each beginning."""
        fitting = {own for own in subsets(names) if plainly_fits(registry, wish, plain_lock(near, far, own))}

        def behind(done):
            if len(done) == len(names):
                return [()]
            more = [own for own in fitting if set(done) < set(own)]
            steps = [(tuple([name for name in own if name not in done]), own) for own in more]
            return [(step, *rest) for step, own in steps for rest in behind(own)]

        return behind(())

    def test_they_say(self):
        self.says([("hub",), ("ink", "pen")], knots, **GIVEN)
        self.says((("ink", "pen"), ("hub",)), plan, **GIVEN)
        self.says(False, one_by_one, **GIVEN)
        same = {**GIVEN, "far": OLDER}
        self.says((), plan, **same)
        self.says((), arrows, **same)
        self.says([], knots, **same)
        self.says([()], all_ahead, **same)
        self.says(True, one_by_one, **same)
        self.knows(is_plan, [()], **same)
        self.assertFalse(has_lists(plan(as_lists(STALL), as_lists(MILD), as_lists(OLDER), as_lists(NEWER))))

    def test_bent_plans(self):
        whole = (("ink", "pen"), ("hub",))
        self.knows(is_plan, [whole, (("hub", "ink", "pen"),)], **GIVEN)
        self.bars(is_plan, [*ODD_THINGS, *bent(whole), whole[::-1], (("ink",), ("pen",), ("hub",)), (("pen", "ink"), ("hub",)),
                            (*whole, ()), ((), *whole), (*whole, ("hub",)), (*whole, ("zoo",)), whole[:1], ("hub", "ink"),
                            (("hub", "ink"), ("ink", "pen")), (("ink", "ink", "pen"), ("hub",))], **GIVEN)


class Ties(Case):
    def test_beside_all_rings(self):
        rng, ties, none = random.Random(1804), [], 0
        for registry, wish, near, far in rows(rng, 24):
            given, found = (registry, wish, near, far), plain_arrows(registry, wish, near, far)
            names = plainly_changed(near, far)
            rings = [row for many in range(2, len(names) + 1) for row in itertools.permutations(names, many)
                     if all(step in found for step in zip(row, row[1:] + row[:1]))]
            for many in range(1, len(names) + 1):
                for row in itertools.islice(itertools.permutations(names, many), 30):
                    self.assertIs(is_tie(*given, row), row in rings)
            self.assertIs(one_by_one(*given), not rings)
            if rings:
                told = tie(*given)
                self.assertIn(told, rings)
                self.assertEqual(len(told), len(rings[0]))
                self.assertFalse(has_lists(told))
                ties.append(len(told))
            else:
                none += 1
                with self.assertRaises(NoPaper):
                    tie(*given)
        self.assertGreater(none, 20)
        self.assertGreater(len(ties), 20)

    def test_a_long_ring(self):
        names = ("a", "b", "c", "d", "e")
        registry = []
        for k, name in enumerate(names):
            registry.append((name, ONE, (), (), (), False))
            registry.append((name, TWO, ((names[(k + 2) % 5], HIGH, (), YES),), (), (), False))
        registry, wish = tuple(registry), ((), (), ())
        near, far = [tuple([((name, ""), own) for name in names]) for own in (ONE, TWO)]
        given = {"registry": registry, "wish": wish, "near": near, "far": far}
        found = tie(**given)
        self.assertEqual(len(found), 5)
        self.knows(is_tie, [("a", "c", "e", "b", "d"), ("c", "e", "b", "d", "a"), found], **given)
        self.bars(is_tie, [("a", "b", "c", "d", "e"), ("a", "c"), ("a", "c", "e"), ("a",), (), ("a", "c", "e", "b", "d") * 2,
                           ("a", "c", "e", "b", "d", "zoo")], **given)
        self.says([names], knots, **given)
        self.says((names,), plan, **given)
        self.refuses(NoPaper(), tie, registry=registry, wish=wish, near=near, far=near)

    def test_they_say(self):
        self.knows(is_tie, [("ink", "pen"), ("pen", "ink")], **GIVEN)
        self.bars(is_tie, [*ODD_THINGS, *bent(("ink", "pen")), ("hub", "pen"), ("ink", "pen", "ink"), ("ink",)], **GIVEN)


class Raised(Case):
    def test_locks_that_do_not_fit(self):
        clash = ((("hub", ""), ONE), (("ink", ""), TWO), (("pen", ""), ONE))
        for bad in ((), clash, NEWER[1:]):
            for given in ({**GIVEN, "near": bad}, {**GIVEN, "far": bad}):
                for function in OF_BOTH:
                    self.refuses(Unfit(), function, **given)
                # Unfit() stands ahead of NoName(name), and comes whatever thing is.
                self.refuses(Unfit(), why_arrow, **given, x="zoo", y="hub")
                self.refuses(Unfit(), keeps_ahead, **given, names=("zoo",))
                self.refuses(Unfit(), goes_with, **given, name="zoo")
                for thing in ((), 5, (("hub",),)):
                    self.refuses(Unfit(), is_plan, **given, thing=thing)
                    self.refuses(Unfit(), is_tie, **given, thing=thing)

    def test_names_that_are_not_changed(self):
        near = (OLDER[0], NEWER[1], NEWER[2])
        given = {**GIVEN, "near": near}
        self.says(("hub",), changed, near=near, far=NEWER)
        self.refuses(NoName("ink"), why_arrow, **given, x="ink", y="pen")
        self.refuses(NoName("pen"), why_arrow, **given, x="hub", y="pen")
        self.refuses(NoName("ink"), keeps_ahead, **given, names=("hub", "ink", "pen"))
        self.refuses(NoName("zoo"), goes_with, **given, name="zoo")
        self.says(True, keeps_ahead, **given, names=("hub",))

    def test_there_is_no_bound_of_lots(self):
        lock = ((("ape", ""), (1, 0, 0, 0)),)
        given = {"registry": WIDER, "wish": ((), (), ()), "near": (), "far": lock}
        self.says((("ape",),), plan, **given)
        self.says((), arrows, **given)
        self.says(True, one_by_one, **given)


if __name__ == "__main__":
    unittest.main()
