"""[21]: reasons, beside all WAYS gone one by one, and all LOCKS with a RELEASE pulled."""

import itertools
import random
import unittest

from newestfit.errors import NoName, NoPaper, NoRelease, TooMany, Unfit
from newestfit.reasons import after_pull, are_ways_apart, asks, asks_to_drop, falls_with, harm, hurt, in_each_way
from newestfit.reasons import is_ask_drop, is_way, must_refusal, must_releases, way_to, ways_apart, who_asks
from models import OVER, WIDE, WIDER, fitting_locks, plainly_judged, tame_case, tame_cases
from plain import plain_asks
from support import Case, EVERY, NO, ODD_THINGS, ONE, TWO, YES, as_lists, bent, has_lists, small_cases

LOW, HIGH, WIN = (((0, 0, 0, -9), (2, 0, 0, -9)),), (((2, 0, 0, -9), None),), ("on", "win")
APP = ("app", ONE, (("gui", EVERY, (), WIN), ("tty", EVERY, (), ("not", WIN)), ("core", EVERY, (), YES)), (), (), False)
HOUSE = (APP, ("core", ONE, (), (), (), False), ("core", TWO, (), (), (), False),
         ("gui", ONE, (("core", LOW, (), YES),), (), (), False), ("tty", ONE, (("core", HIGH, (), YES),), (), (), False))
MORE = HOUSE + (("tty", TWO, (), (), (), False),)
WISHED = ((("app", EVERY, (), YES),), ("win",), ())
LOCK = ((("app", ""), ONE), (("core", ""), ONE), (("gui", ""), ONE))
APP_ITEM, CORE, GUI = ("app", ""), ("core", ""), ("gui", "")
GIVEN = {"registry": HOUSE, "wish": WISHED, "lock": LOCK}
OF_ITEM = (who_asks, way_to, ways_apart, asks_to_drop, in_each_way, falls_with)
OF_THING = (is_way, are_ways_apart, is_ask_drop)
OF_PULL = (after_pull, harm, must_refusal)


def all_ways(found, item):
    """All WAYS to item, one by one."""
    ways, waiting = [], [()]
    while waiting:
        way = waiting.pop()
        last = way[-1][2] if way else ()
        if way and last == item:
            ways.append(way)
            continue
        come_to = {own[2] for own in way}
        waiting.extend([(*way, own) for own in found if own[0] == last and own[2] not in come_to])
    return ways


def fewest_meeting(ways):
    """How many ASKS are needed to have one of each of ways."""
    rows = sorted({own for way in ways for own in way})
    for many in range(len(rows) + 1):
        for chosen in itertools.combinations(rows, many):
            if all(any(own in chosen for own in way) for way in ways):
                return many
    return None


def woven_case(rng):
    """A REGISTRY of one RELEASE of each NAME with many needs, all of them there."""
    names = ("ape", "bee", "cat", "dog", "elk")[:rng.randint(3, 5)]
    registry = []
    for name in names:
        def needs(many):
            return tuple([(rng.choice(names), EVERY, rng.choice(((), (), ("p",))), rng.choice((YES, YES, YES, NO)))
                          for _ in range(rng.randint(0, many))])
        registry.append((name, ONE, needs(3), (("p", needs(2)),), (), False))
    wish = (tuple([(rng.choice(names[:2]), EVERY, rng.choice(((), ("p",))), YES) for _ in range(rng.randint(1, 3))]), (), ())
    return tuple(registry), wish, tuple([((name, part), ONE) for name in names for part in ("", "p")])


def rows(rng, times):
    """Made-up triples (registry, wish, lock), lock one that fits."""
    for registry, wish in [*small_cases(rng, times // 2, 200), *tame_cases(rng, times, 200)]:
        fitting = fitting_locks(registry, wish)
        for lock in fitting[:1] + fitting[-1:]:
            yield registry, wish, lock
    for _ in range(times):
        yield woven_case(rng)


class Ways(Case):
    def test_beside_all_ways(self):
        rng, seen, self.twice = random.Random(2101), [0, 0, 0], 0
        for registry, wish, lock in rows(rng, 40):
            given, found = (registry, wish, lock), plain_asks(registry, wish, lock)
            self.same(asks(*given), tuple(sorted(found)))
            ways = {item: all_ways(found, item) for item, _ in lock}
            for item in list(ways)[:6]:
                own = (*given, item)
                self.same(who_asks(*own), tuple(sorted({row[:2] for row in found if row[2] == item})))
                self.look_at_way(own, ways[item])
                falling = [other for other in ways if ways[other] and all(
                    any(row[2] == item for row in way) for way in ways[other])]
                self.same(falls_with(*own), tuple(sorted(falling)))
                if len(ways[item]) < 200:
                    seen[2] += self.look_at_apart(rng, own, ways[item])
                seen = [seen[0] + (not ways[item]), seen[1] + (len(ways[item]) > 2), seen[2]]
        self.assertGreater(min(*seen, self.twice), 20, (seen, self.twice))

    def look_at_way(self, own, ways):
        for way in ways[:20]:
            self.assertIs(is_way(*own, way), True)
        if not ways:
            for function in (way_to, in_each_way):
                with self.assertRaises(NoPaper):
                    function(*own)
            return
        walks = self.walks(own)
        for walk in walks:
            self.assertIs(is_way(*own, walk), walk in ways)
        self.twice += any(walk not in ways for walk in walks)
        self.same(way_to(*own), min(ways, key=lambda way: (len(way), way)))
        over = set.intersection(*[{row[2] for row in way} for way in ways]) - {own[3]}
        self.same(in_each_way(*own), tuple(sorted(over)))

    def walks(self, own):
        """Some rows of ASKS, each going on from the one ahead, to the ITEM; some come to an ITEM twice."""
        rows, found = [()], []
        for row in itertools.islice(iter(rows), 300):
            last = row[-1][2] if row else ()
            found.extend([row] if last == own[3] else [])
            rows.extend([(*row, ask) for ask in asks(*own[:3]) if ask[0] == last and len(row) < 5])
        return found

    def look_at_apart(self, rng, own, ways):
        """Whether more than one WAY apart leads to the ITEM."""
        told, drop = ways_apart(*own), asks_to_drop(*own)
        self.assertEqual(len(told), len(drop))
        self.assertLessEqual(set(told), set(ways))
        used = [row for way in told for row in way]
        self.assertEqual(len(set(used)), len(used))
        self.assertTrue(all(any(row in drop for row in way) for way in ways))
        self.assertEqual(drop, tuple(sorted(set(drop))))
        self.assertFalse(has_lists((told, drop)))
        self.assertIs(are_ways_apart(*own, told), True)
        self.assertIs(is_ask_drop(*own, drop), True)
        asked = asks(*own[:3])
        for _ in range(8):
            some = tuple(rng.sample(ways, min(len(ways), rng.randint(0, 3))))
            rows = [row for way in some for row in way]
            self.assertIs(are_ways_apart(*own, some), len(set(rows)) == len(rows))
            thing = tuple(sorted(rng.sample(asked, rng.randint(0, len(asked)))))
            self.assertIs(is_ask_drop(*own, thing), all(any(row in thing for row in way) for way in ways))
        return len(told) > 1

    def test_as_few_as_can_be(self):
        rng, seen = random.Random(2102), {}
        for registry, wish, lock in [woven_case(rng) for _ in range(60)]:
            item = rng.choice(lock)[0]
            ways = all_ways(plain_asks(registry, wish, lock), item)
            if len(ways) < 60:
                told = len(ways_apart(registry, wish, lock, item))
                self.assertEqual(told, fewest_meeting(ways))
                seen[told] = seen.get(told, 0) + 1
        self.assertGreaterEqual(len(seen), 3, seen)

    def test_ways_that_must_go_back(self):
        """Two WAYS apart of which the shortest one stands in the way of both."""
        def release(name, *others):
            return (name, ONE, tuple([(other, EVERY, (), YES) for other in others]), (), (), False)

        registry = (release("a", "b", "c"), release("b", "d", "e"), release("c", "f"), release("d", "z"), release("e", "g"),
                    release("f", "d"), release("g", "z"), release("z"))
        wish = ((("a", EVERY, (), YES), ("a", EVERY, (), YES)), (), ())
        lock = tuple([((own[0], ""), ONE) for own in registry])
        given = {"registry": registry, "wish": wish, "lock": lock, "item": ("z", "")}
        found = ways_apart(**given)
        self.assertEqual(sorted([len(way) for way in found]), [5, 5])
        self.knows(are_ways_apart, [(), found, found[::-1], found[:1]], **given)
        self.says(4, lambda registry, wish, lock, item: len(way_to(registry, wish, lock, item)), **given)
        self.says((("a", ""),), in_each_way, **given)
        self.assertEqual(len(asks_to_drop(**given)), 2)


class Says(Case):
    def test_asks(self):
        found = (((), 0, APP_ITEM), (APP_ITEM, 0, GUI), (APP_ITEM, 2, CORE), (GUI, 0, CORE))
        self.says(found, asks, **GIVEN)
        self.says((((), 0),), who_asks, **GIVEN, item=APP_ITEM)
        self.says(((APP_ITEM, 2), (GUI, 0)), who_asks, **GIVEN, item=CORE)
        self.says((), asks, registry=HOUSE, wish=((), (), ()), lock=())
        self.says(((APP_ITEM,)), in_each_way, **GIVEN, item=CORE)
        self.says((), in_each_way, **GIVEN, item=APP_ITEM)
        self.says((APP_ITEM, CORE, GUI), falls_with, **GIVEN, item=APP_ITEM)
        self.says((GUI,), falls_with, **GIVEN, item=GUI)
        self.says(found[:1] + found[2:3], way_to, **GIVEN, item=CORE)
        self.says((found[:1] + found[2:3],), ways_apart, **GIVEN, item=CORE)
        self.says(found[:1], asks_to_drop, **GIVEN, item=CORE)

    def test_parts_and_what_nobody_asks_for(self):
        registry = (("a", ONE, (("a", EVERY, ("p",), YES),), (("p", (("b", EVERY, (), YES),)), ("q", ())), (), False),
                    ("b", ONE, (), (), (), False), ("c", ONE, (("b", EVERY, (), YES), ("c", EVERY, (), YES)), (), (), False))
        wish = ((("a", EVERY, ("p",), NO), ("a", EVERY, (), YES)), (), ())
        lock = ((("a", ""), ONE), (("a", "p"), ONE), (("a", "q"), ONE), (("b", ""), ONE), (("c", ""), ONE))
        given = {"registry": registry, "wish": wish, "lock": lock}
        a, p, q, b, c = [item for item, _ in lock]
        # A part asks for its release as -1, a release may ask for itself.
        self.says((((), 1, a), (a, 0, a), (a, 0, p), (p, -1, a), (p, 0, b), (q, -1, a), (c, 0, b), (c, 1, c)), asks, **given)
        self.says((((), 1), (a, 0), (p, -1), (q, -1)), who_asks, **given, item=a)
        self.says((), who_asks, **given, item=q)
        self.says(((c, 1),), who_asks, **given, item=c)
        for item in (q, c):
            for function in (way_to, in_each_way):
                self.refuses(NoPaper(), function, **given, item=item)
            for function in (ways_apart, asks_to_drop, falls_with):
                self.says((), function, **given, item=item)
            self.knows(are_ways_apart, [()], **given, item=item)
            self.bars(is_way, [*ODD_THINGS, ((c, 1, c),), ()], **given, item=item)
            self.knows(is_ask_drop, [(), ((c, 1, c),), asks(**given)], **given, item=item)
        self.says((a, p, b), falls_with, **given, item=a)
        self.says((a, p), in_each_way, **given, item=b)
        self.says((((), 1, a), (a, 0, p), (p, 0, b)), way_to, **given, item=b)

    def test_bent_things(self):
        way = (((), 0, APP_ITEM), (APP_ITEM, 2, CORE))
        longer = (((), 0, APP_ITEM), (APP_ITEM, 0, GUI), (GUI, 0, CORE))
        own = {**GIVEN, "item": CORE}
        self.knows(is_way, [way, longer], **own)
        self.bars(is_way, [*ODD_THINGS, *bent(way), way[:1], way[1:], way[::-1], (way[0],) + way, longer + way[1:],
                           (((), False, APP_ITEM), way[1]), (((), 0, APP_ITEM), (APP_ITEM, 1, CORE))], **own)
        self.knows(are_ways_apart, [(), (way,), (longer,)], **own)
        self.bars(are_ways_apart, [*bent((way,)), (way, way), (way, longer), way, (way, ()), ((),)], **own)
        rest = (((), 0, APP_ITEM), (APP_ITEM, 0, GUI))
        self.knows(is_ask_drop, [way[:1], rest, way, (way[1], longer[2])], **own)
        self.bars(is_ask_drop, [*ODD_THINGS, *bent(way), (), rest[1:], rest[::-1], way[:1] * 2, (((), False, APP_ITEM),),
                                (((), 0, APP_ITEM), ((), 1, APP_ITEM)), way[1:]], **own)

    def test_unfit_then_no_name(self):
        for bad in ((), LOCK[1:], LOCK[:1]):
            self.refuses(Unfit(), asks, registry=HOUSE, wish=WISHED, lock=bad)
            for item in (("zoo", ""), CORE):
                given = {"registry": HOUSE, "wish": WISHED, "lock": bad, "item": item}
                for function in OF_ITEM:
                    self.refuses(Unfit(), function, **given)
                for function in OF_THING:
                    self.refuses(Unfit(), function, **given, thing=5)
        for item in (("zoo", ""), ("tty", ""), ("zoo", "p"), ("core", "p")):
            for function in OF_ITEM:
                self.refuses(NoName(item[0]), function, **GIVEN, item=item)
            for function in OF_THING:
                self.refuses(NoName(item[0]), function, **GIVEN, item=item, thing=())


class Pulled(Case):
    def test_beside_all_locks(self):
        rng, seen = random.Random(2103), [0, 0, 0, 0]
        for registry, wish in [*small_cases(rng, 25, 200), *tame_cases(rng, 40, 200)]:
            fitting, must = fitting_locks(registry, wish), []
            best = fitting[0] if fitting else None
            wishes = (wish, tame_case(rng)[1], ((), (), ()))
            for place, release in enumerate(registry):
                name, version = release[:2]
                pulled = (*registry[:place], (*release[:5], True), *registry[place + 1:])
                own = (registry, wish, name, version)
                left = fitting_locks(pulled, wish)
                self.assertEqual(left, [lock for lock in fitting if ((name, ""), version) not in lock])
                after = left[0] if left else None
                self.same(after_pull(*own), after)
                self.look_at_harm(own, best, after)
                if after is None:
                    refusal = must_refusal(*own)
                    self.assertTrue(plainly_judged(pulled, wish, refusal, ()))
                    self.assertFalse(has_lists(refusal))
                    must.extend([(name, version)] if fitting else [])
                else:
                    with self.assertRaises(NoPaper):
                        must_refusal(*own)
                self.same(hurt(registry, wishes, name, version), self.plainly_hurt(registry, pulled, wishes))
                seen = [seen[0] + release[5], seen[1] + (after is None), seen[2] + (after not in (None, best)), seen[3]]
            if fitting:
                self.same(must_releases(registry, wish), tuple(sorted(must)))
                seen[3] += bool(must)
            else:
                with self.assertRaises(Unfit):
                    must_releases(registry, wish)
        self.assertGreater(min(seen), 10, seen)

    def look_at_harm(self, own, best, after):
        if best is None or after is None:
            with self.assertRaises(Unfit if best is None else NoPaper):
                harm(*own)
            return
        items = sorted({item for item, _ in (*best, *after)})
        rows = [(item, dict(best).get(item), dict(after).get(item)) for item in items]
        self.same(harm(*own), tuple([row for row in rows if row[1] != row[2]]))

    def plainly_hurt(self, registry, pulled, wishes):
        changed, lost = [], []
        for number, wish in enumerate(wishes):
            before, then = fitting_locks(registry, wish)[:1], fitting_locks(pulled, wish)[:1]
            if before and not then:
                lost.append(number)
            elif before != then:
                changed.append(number)
        return tuple(changed), tuple(lost)

    def test_they_say(self):
        wish = (WISHED[0], (), ())
        own = {"registry": MORE, "wish": wish, "name": "core", "version": TWO}
        old = ((APP_ITEM, ONE), (CORE, ONE), (("tty", ""), TWO))
        self.says(old, after_pull, **own)
        self.says(((CORE, TWO, ONE),), harm, **own)
        self.says((("app", ONE),), must_releases, registry=MORE, wish=wish)
        self.says((), must_releases, registry=MORE, wish=((), (), ()))
        self.says(((), (1,)), hurt, registry=MORE, wishes=(wish, WISHED), name="gui", version=ONE)
        self.says(((0,), ()), hurt, registry=MORE, wishes=(wish, WISHED, ((), (), ())), name="core", version=TWO)
        self.says(((), (0, 1)), hurt, registry=MORE, wishes=(wish, WISHED), name="app", version=ONE)
        self.says(((), ()), hurt, registry=MORE, wishes=(), name="app", version=ONE)
        self.says((), harm, registry=MORE, wish=wish, name="gui", version=ONE)
        gone = {"registry": HOUSE, "wish": WISHED, "name": "gui", "version": ONE}
        self.says(None, after_pull, **gone)
        self.refuses(NoPaper(), harm, **gone)
        self.refuses(NoPaper(), must_refusal, **own)
        hopeless = {**own, "wish": ((("zoo", EVERY, (), YES),), (), ())}
        self.says(None, after_pull, **hopeless)
        self.refuses(Unfit(), harm, **hopeless)
        self.refuses(Unfit(), must_releases, registry=MORE, wish=hopeless["wish"])
        self.says(((), ()), hurt, registry=MORE, wishes=(hopeless["wish"],), name="core", version=TWO)
        told = must_refusal(**gone)
        self.same(must_refusal(as_lists(HOUSE), as_lists(WISHED), "gui", list(ONE)), told)

    def test_pulled_already(self):
        registry = tuple([own if own[:2] != ("core", TWO) else own[:5] + (True,) for own in MORE])
        wish = (WISHED[0], (), ())
        own = {"registry": registry, "wish": wish, "name": "core", "version": TWO}
        self.says(((APP_ITEM, ONE), (CORE, ONE), (("tty", ""), TWO)), after_pull, **own)
        self.says((), harm, **own)
        self.says(((), ()), hurt, registry=registry, wishes=(wish,), name="core", version=TWO)
        # Without it tty 1 finds no core; so tty 2 must be there.
        self.says((("app", ONE), ("core", ONE), ("tty", TWO)), must_releases, registry=registry, wish=wish)

    def test_names_then_releases_then_too_many(self):
        bare = ((), (), ())
        for registry in (WIDER, OVER):
            given = {"registry": registry, "wish": bare}
            for function in OF_PULL:
                self.refuses(NoName("zoo"), function, **given, name="zoo", version=ONE)
                self.refuses(NoRelease((9, 0, 0, 0)), function, **given, name="ape", version=(9, 0, 0, 0))
                self.refuses(TooMany(), function, **given, name="ape", version=ONE)
            self.refuses(TooMany(), must_releases, **given)
            for error, name, version in ((NoName("zoo"), "zoo", ONE), (NoRelease(TWO), "elk", TWO)):
                self.refuses(error, hurt, registry=WIDER, wishes=(bare,), name=name, version=version)
                self.refuses(error, hurt, registry=WIDER, wishes=(), name=name, version=version)
            self.refuses(TooMany(), hurt, registry=registry, wishes=(bare, bare), name="ape", version=ONE)
            self.says(((), ()), hurt, registry=registry, wishes=(), name="ape", version=ONE)
        self.says((), after_pull, registry=WIDE, wish=bare, name="ape", version=ONE)

    def test_the_bound_is_asked_of_the_registry_as_it_is(self):
        """Pulled, a RELEASE with its parts would leave few enough."""
        bare, pulled = ((), (), ()), tuple([own[:5] + (own[0] == "elk",) for own in WIDER])
        self.says((), after_pull, registry=pulled, wish=bare, name="elk", version=ONE)
        self.refuses(TooMany(), after_pull, registry=WIDER, wish=bare, name="elk", version=ONE)


if __name__ == "__main__":
    unittest.main()
