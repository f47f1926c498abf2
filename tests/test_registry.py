"""[8]: REGISTRIES, beside plain loops over their RELEASES."""

import itertools
import random
import unittest

from newestfit.errors import NoName, NoRelease, Unfit
from newestfit.registry import differing, is_need, is_open, is_registry, is_registry_fault, is_release, is_wish
from newestfit.registry import names_in, open_versions, parts_of, publish, pull, put_back, put_together
from newestfit.registry import registry_faults, release_at, speaking_of, take_out, versions_of
from support import APP, Case, EARLY, EVERY, FEW_VERSIONS, FIRST, FROM_TWO, NAMES, NET, NEW, NO, OLD, ONE, PARTS, TWO
from support import YARD, YES, as_lists, bent, made_registry, made_release, made_wish, mark_holds, open_locks
from support import plain_needs, plainly_fits, plainly_holds, plainly_open, small_cases

PULLED = ("lib", TWO, (), (), (("net", EVERY),), True)


def plain_faults(registry):
    found = set()
    for name, version, needs, parts, clashes, _ in registry:
        for part, own in (("", needs), *parts):
            for k, need in enumerate(own):
                named = [release for release in registry if release[0] == need[0]]
                ranged = [release for release in named if plainly_holds(need[1], release[1])]
                whole = [release for release in ranged if set(need[2]) <= {own[0] for own in release[3]}]
                kind = "name" if not named else "range" if not ranged else "parts" if not whole else None
                if kind:
                    found.add((kind, name, version, part, k))
        for k, (other, span) in enumerate(clashes):
            if other == name and plainly_holds(span, version):
                found.add(("itself", name, version, "", k))
    return tuple(sorted(found))


class Kinds(Case):
    def test_is_need(self):
        good = (("lib", EVERY, ("a", "b"), YES), ("lib", (), (), NO), ("a", ((ONE, TWO),), ("a",), ("on", "x")))
        self.knows(is_need, good)
        for need in good:
            self.bars(is_need, list(bent(need)))
        self.bars(is_need, (("lib", EVERY, ("b", "a"), YES), ("lib", EVERY, ("a", "a"), YES),
                            ("lib", EVERY, ("",), YES),
                            ("lib", ((TWO, ONE),), (), YES), ("", EVERY, (), YES), ("lib", EVERY, (), ("on", "")),
                            ("lib", EVERY, ()), ("lib", None, (), YES), ("lib", EVERY, None, YES)))

    def test_is_release(self):
        self.knows(is_release, (*YARD, PULLED, ("a", FIRST, (), (), (), True)))
        for release in YARD:
            self.bars(is_release, list(bent(release)))
        self.bars(is_release, (("a", ONE, (), (("q", ()), ("p", ())), (), False),
                               ("a", ONE, (), (("p", ()), ("p", ())), (), False),
                               ("a", ONE, (), (("", ()),), (), False), ("a", ONE, (), ("p",), (), False),
                               ("a", ONE, (), (("p",),), (), False), ("a", ONE, (), (("p", (), ()),), (), False),
                               ("a", ONE, (), (), (("b",),), False), ("a", ONE, (), (), (("b", None),), False),
                               ("a", ONE, (), (), ("b",), False), ("a", ONE, (), (), (), 0), ("a", ONE, (), (), ())))

    def test_is_registry(self):
        self.knows(is_registry, ((), YARD, (APP,), (OLD, PULLED)))
        self.bars(is_registry, list(bent(YARD)))
        self.bars(is_registry, ((OLD, APP), (NEW, OLD), (OLD, OLD), (NEW, PULLED), APP, (YARD,), ((),)))

    def test_is_wish(self):
        good = ((APP[2], ("unix",), ("lib", "net")), ((), (), ()), ((APP[2][0], APP[2][0]), (), ()))
        self.knows(is_wish, good)
        for wish in good:
            self.bars(is_wish, list(bent(wish)))
        self.bars(is_wish, (((), ("b", "a"), ()), ((), (), ("b", "a")), ((), ("a", "a"), ()), (APP[2][0], (), ()),
                            ((), ()),
                            ((), (), (), ()), (None, (), ())))


class Looking(Case):
    def test_by_plain_loops(self):
        rng = random.Random(31)
        for _ in range(150):
            registry = made_registry(rng, NAMES[:3], 0.5)
            self.assertIs(is_registry(registry), True)
            self.same(names_in(registry), tuple(sorted({own[0] for own in registry})))
            self.same(registry_faults(registry), plain_faults(registry))
            for name in NAMES:
                mine = [own for own in registry if own[0] == name]
                spoken = [own[:2] for own in registry if name in [need[0] for need in own[2]]
                          + [need[0] for part in own[3] for need in part[1]] + [clash[0] for clash in own[4]]]
                self.same(speaking_of(registry, name), tuple(spoken))
                if mine:
                    self.same(versions_of(registry, name), tuple([own[1] for own in mine]))
                    self.same(parts_of(registry, name), tuple(sorted({part[0] for own in mine for part in own[3]})))
                for part, early in itertools.product(("", *PARTS),
                                                     ((), (name,), tuple(own for own in NAMES if own != name))):
                    row = [own for own in FEW_VERSIONS if plainly_open(registry, early, (name, part), own)]
                    self.same(open_versions(registry, early, (name, part)), tuple(row))
                    for version in FEW_VERSIONS:
                        self.same(is_open(registry, early, (name, part), version), version in row)

    def test_functions_say(self):
        self.says(("app", "lib", "net"), names_in, registry=YARD)
        self.says((), names_in, registry=())
        self.says((ONE, TWO), versions_of, registry=YARD, name="lib")
        self.says(("fast",), parts_of, registry=YARD, name="lib")
        self.says((), parts_of, registry=YARD, name="net")
        self.says(NEW, release_at, registry=YARD, name="lib", version=TWO)
        self.says((("app", ONE),), speaking_of, registry=YARD, name="lib")
        self.says((("app", ONE), ("lib", TWO)), speaking_of, registry=YARD, name="net")
        self.says((), speaking_of, registry=YARD, name="app")
        self.says((), speaking_of, registry=YARD, name="unheard")
        self.says((("net", EARLY),), speaking_of, registry=YARD, name="ghost")

    def test_open_says(self):
        shut = (APP, OLD, PULLED, NET)
        for registry, early, item, row in ((YARD, (), ("lib", ""), (ONE, TWO)), (YARD, (), ("lib", "fast"), (ONE,)),
                                           (YARD, (), ("net", ""), ()), (YARD, ("net",), ("net", ""), (EARLY,)),
                                           (YARD, ("lib",), ("net", ""), ()), (YARD, ("net",), ("net", "fast"), ()),
                                           (shut, ("lib",), ("lib", ""), (ONE,)), (YARD, (), ("app", "web"), (ONE,)),
                                           (YARD, ("ghost",), ("ghost", ""), ()), ((), (), ("lib", ""), ())):
            self.says(row, open_versions, registry=registry, early=early, item=item)
            for version in (ONE, TWO, EARLY, (9, 9, 9, 0)):
                self.says(version in row, is_open, registry=registry, early=early, item=item, version=version)

    def test_no_name_ahead_of_no_release(self):
        for function in (versions_of, parts_of):
            self.refuses(NoName("ghost"), function, registry=YARD, name="ghost")
            self.refuses(NoName("lib"), function, registry=(), name="lib")
        for function in (release_at, pull, put_back, take_out):
            self.refuses(NoName("ghost"), function, registry=YARD, name="ghost", version=ONE)
            self.refuses(NoName("lib"), function, registry=(), name="lib", version=ONE)
            self.refuses(NoRelease(ONE), function, registry=YARD, name="net", version=ONE)
            self.refuses(NoRelease((1, 0, 0, -1)), function, registry=YARD, name="lib", version=(1, 0, 0, -1))


class Changing(Case):
    def test_publish_pull_take_out(self):
        rng = random.Random(32)
        for _ in range(150):
            registry = made_registry(rng, NAMES[:3], 0.5)
            rest = list(registry)
            rng.shuffle(rest)
            grown = ()
            for release in rest:
                grown = publish(grown, release)
                self.assertIs(is_registry(grown), True)
            self.same(grown, registry)
            for release in registry:
                name, version = release[:2]
                out = tuple([own for own in registry if own != release])
                self.same(take_out(registry, name, version), out)
                self.same(publish(out, release), registry)
                for function, pulled in ((pull, True), (put_back, False)):
                    changed = tuple([own if own != release else release[:5] + (pulled,) for own in registry])
                    self.same(function(registry, name, version), changed)
                with self.assertRaises(Unfit):
                    publish(registry, release[:5] + (not release[5],))

    def test_put_together_and_differing(self):
        rng = random.Random(33)
        for _ in range(200):
            one, other = made_registry(rng, NAMES[:3], 0.3), made_registry(rng, NAMES[:3], 0.3)
            if rng.random() < 0.6:
                other = tuple([own for own in other if own[:2] not in [mine[:2] for mine in one]])
                other = tuple(sorted(other + tuple(rng.sample(one, rng.randint(0, len(one)))), key=lambda own: own[:2]))
            rows = [{own[:2]: own for own in rows} for rows in (one, other)]
            unlike = tuple(sorted([pair for pair in {**rows[0], **rows[1]} if rows[0].get(pair) != rows[1].get(pair)]))
            self.same(differing(one, other), unlike)
            if any(rows[0][pair] != rows[1].get(pair, rows[0][pair]) for pair in rows[0]):
                with self.assertRaises(Unfit):
                    put_together(one, other)
            else:
                both = {**rows[0], **rows[1]}
                self.same(put_together(one, other), tuple([both[pair] for pair in sorted(both)]))

    def test_changes_say(self):
        self.says(YARD, publish, registry=(APP, OLD, NET), release=NEW)
        self.says((APP,), publish, registry=(), release=APP)
        self.refuses(Unfit(), publish, registry=YARD, release=OLD)
        self.refuses(Unfit(), publish, registry=YARD, release=PULLED)
        self.says((APP, OLD, PULLED, NET), pull, registry=YARD, name="lib", version=TWO)
        self.says((APP, OLD, PULLED, NET), pull, registry=(APP, OLD, PULLED, NET), name="lib", version=TWO)
        self.says(YARD, put_back, registry=(APP, OLD, PULLED, NET), name="lib", version=TWO)
        self.says(YARD, put_back, registry=YARD, name="lib", version=TWO)
        self.says((APP, NEW, NET), take_out, registry=YARD, name="lib", version=ONE)
        self.says(YARD, put_together, one=(NEW, NET), other=(APP, OLD, NET))
        self.says((), put_together, one=(), other=())
        self.refuses(Unfit(), put_together, one=(OLD, NEW), other=(APP, PULLED))
        self.says((("lib", TWO),), differing, one=YARD, other=(APP, OLD, PULLED, NET))
        self.says((("app", ONE), ("lib", ONE), ("net", EARLY)), differing, one=(APP, NEW), other=(OLD, NEW, NET))
        self.says((), differing, one=YARD, other=YARD)


class Faults(Case):
    def test_faults_say(self):
        base, wide = ("name", "net", EARLY, "", 0), ((FIRST, ONE),)
        self.says((base,), registry_faults, registry=YARD)
        self.says((), registry_faults, registry=())
        self.says((("name", "app", ONE, "", 0), ("name", "app", ONE, "web", 0)), registry_faults, registry=(APP,))
        self.says((base, ("parts", "app", ONE, "", 0)), registry_faults, registry=(APP, NEW, NET))
        odd = ("odd", ONE, (("lib", wide, (), NO), ("lib", (), (), YES), ("lib", EVERY, ("fast", "slow"), YES)),
               (("p", (("lib", FROM_TWO, ("fast",), YES), ("odd", EVERY, ("p",), YES))),),
               (("odd", wide), ("odd", EVERY), ("lib", EVERY), ("odd", ((ONE, TWO),))), True)
        self.says((("itself", "odd", ONE, "", 1), ("itself", "odd", ONE, "", 3), ("parts", "odd", ONE, "", 2),
                   ("parts", "odd", ONE, "p", 0), ("range", "odd", ONE, "", 0), ("range", "odd", ONE, "", 1)),
                  registry_faults, registry=(OLD, PULLED, odd))

    def test_is_registry_fault(self):
        fault = ("name", "net", EARLY, "", 0)
        self.knows(is_registry_fault, (fault,), registry=YARD)
        self.knows(is_registry_fault, (fault,), registry=as_lists(YARD))
        self.bars(is_registry_fault, list(bent(fault)), registry=YARD)
        self.bars(is_registry_fault, (("name", "net", EARLY, "", 1), ("range", "net", EARLY, "", 0), fault[:4],
                                      ("name", "net", (True, 0, 0, -1), "", 0), ("name", "net", EARLY, "", False)),
                  registry=YARD)
        self.bars(is_registry_fault, (("name", "app", ONE, "web", False),
                                      ("name", "app", (True, False, 0, 0), "web", 0)),
                  registry=(APP,))
        rng = random.Random(34)
        for _ in range(60):
            registry = made_registry(rng)
            there = plain_faults(registry)
            for kind, own, part, k in itertools.product(("name", "range", "parts", "itself"), registry, ("", *PARTS),
                                                        range(2)):
                thing = (kind, own[0], own[1], part, k)
                self.assertIs(is_registry_fault(registry, thing), thing in there)


class Guarantees(Case):
    def test_locks_that_fit_and_changed_registries(self):
        rng = random.Random(35)
        for registry, wish in small_cases(rng, 60, 150):
            fitting = [lock for lock in open_locks(registry, wish) if plainly_fits(registry, wish, lock)]
            for release in registry:
                name, version = release[:2]
                pulled, back = pull(registry, name, version), put_back(registry, name, version)
                for lock in fitting:
                    there = any(item[0] == name and own == version for item, own in lock)
                    self.assertEqual(plainly_fits(pulled, wish, lock), not there)
                    self.assertTrue(plainly_fits(back, wish, lock))
            fresh = [(name, own) for name in NAMES for own in FEW_VERSIONS if (name,
                                                                               own) not in [at[:2] for at in registry]]
            more = publish(registry, made_release(rng, *rng.choice(fresh)))
            for lock in fitting:
                self.assertTrue(plainly_fits(more, wish, lock))

    def test_what_has_a_fault_is_in_no_lock_that_fits(self):
        rng = random.Random(36)
        seen = 0
        for registry, wish in small_cases(rng, 120, 200):
            fitting = [lock for lock in open_locks(registry, wish) if plainly_fits(registry, wish, lock)]
            for kind, name, version, part, k in registry_faults(registry):
                if kind != "itself" and not mark_holds(plain_needs(registry, (name, part), version)[k][3], wish[1]):
                    continue
                seen += len(fitting)
                for lock in fitting:
                    self.assertNotIn(((name, part), version), lock)
        self.assertGreater(seen, 100)

    def test_made_wishes_are_wishes(self):
        rng = random.Random(37)
        for _ in range(50):
            self.assertIs(is_wish(made_wish(rng)), True)


if __name__ == "__main__":
    unittest.main()
