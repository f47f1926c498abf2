"""[17]: asks that clash, beside all sets of asks and all LOCKS tried."""

import itertools
import random
import unittest

from newestfit.errors import NoNeed, NoPaper, TooMany
from newestfit.least import blame, clashing, core, core_paper, cores, cut, drop, drop_paper, drops, fewest_dropped
from newestfit.least import is_core_paper, is_drop_paper, least_meets, loosened
from models import OVER, STRANGE, WIDE, WIDER, made_beginning, tame_cases
from plain import PlainAsks, plain_cut
from support import Case, EVERY, NO, ODD_THINGS, ONE, TWO, YES, as_lists, bent, has_lists, mark_holds, small_cases
from support import subsets

LOW, HIGH = ((ONE, TWO),), ((TWO, None),)
# The examples' stall: hub 2 needs pen 2; each pen needs ink of its own age.
STALL = (("hub", ONE, (("pen", EVERY, (), YES),), (), (), False), ("hub", TWO, (("pen", HIGH, (), YES),), (), (), False),
         ("ink", ONE, (), (), (), False), ("ink", TWO, (), (), (), False),
         ("pen", ONE, (("ink", LOW, (), YES),), (), (), False), ("pen", TWO, (("ink", HIGH, (), YES),), (), (), False))
HUB, INK, PEN = ("hub", ""), ("ink", ""), ("pen", "")
HOPES, NAILED = ((("hub", HIGH, (), YES), ("pen", EVERY, (), YES)), (), ()), ((HUB, TWO), (INK, ONE), (PEN, ONE))
GIVEN = {"registry": STALL, "wish": HOPES, "begun": NAILED}
OF_ALL = (core, drop, cores, drops, blame, fewest_dropped, loosened)
OF_NUMBERS = (clashing, core_paper, drop_paper)


def rows(rng, times, most=150):
    """Made-up triples (registry, wish, begun) of at most 6 asks, some of strange ITEMS or shut VERSIONS."""
    for registry, wish in [*small_cases(rng, times // 3, most), *tame_cases(rng, times, most)]:
        begun = made_beginning(rng, registry, wish, rng.random() < 0.3)
        while len(begun) + len(wish[0]) > 6:
            begun = begun[:-1] if len(begun) % 2 else begun[1:]
        yield registry, wish, begun


def least(sets):
    return min(sets, key=lambda own: (len(own), own), default=None)


class Clashing(Case):
    def test_beside_all_sets_and_all_locks(self):
        rng, many, both = random.Random(1701), 0, 0
        for registry, wish, begun in rows(rng, 70):
            plain = PlainAsks(registry, wish, begun)
            for numbers in subsets(plain.everything):
                self.assertIs(clashing(registry, wish, begun, numbers), numbers in plain.clashing, (wish, begun))
                self.same(cut(wish, begun, numbers), plain_cut(wish, begun, numbers))
            own_cores = sorted([own for own in subsets(plain.everything) if plain.is_core(own)])
            own_drops = sorted([own for own in subsets(plain.everything) if plain.is_drop(own)])
            self.same(cores(registry, wish, begun), own_cores)
            self.same(drops(registry, wish, begun), own_drops)
            self.same(drop(registry, wish, begun), plain.drop())
            self.same(fewest_dropped(registry, wish, begun), least(own_drops))
            free = [own for own in own_drops if not own or own[0] >= len(wish[0])]
            self.raised_or_same(loosened, (registry, wish, begun), least(free))
            self.raised_or_same(blame, (registry, wish, begun), least(own_cores))
            self.raised_or_same(core, (registry, wish, begun), plain.core() if own_cores else None)
            many, both = many + bool(own_cores), both + (len(own_cores) > 1 and len(own_drops) > 1)
        self.assertGreater(many, 30)
        self.assertGreater(both, 8)

    def raised_or_same(self, function, given, expected):
        """function tells expected, NoPaper() if that is None."""
        if expected is None:
            with self.assertRaises(NoPaper):
                function(*given)
        else:
            self.same(function(*given), expected)

    def test_guarantees(self):
        rng = random.Random(1702)
        for registry, wish, begun in rows(rng, 25):
            everything = range(len(wish[0]) + len(begun))
            self.assertIs(clashing(registry, wish, begun, ()), False)
            own = cores(registry, wish, begun)
            idle = [k for k, need in enumerate(wish[0]) if not mark_holds(need[3], wish[1])]
            self.assertFalse({number for numbers in own for number in numbers} & set(idle))
            for numbers in subsets(everything):
                inside = any(set(one) <= set(numbers) for one in own)
                self.assertIs(clashing(registry, wish, begun, numbers), inside)
            self.same(least_meets(drops(registry, wish, begun)), own)
            self.same(least_meets(own), drops(registry, wish, begun))

    def test_they_say(self):
        for numbers, expected in (((), False), ((0, 3), True), ((0, 1), False), ((2, 3), True), ((0, 1, 2, 3, 4), True)):
            self.says(expected, clashing, **GIVEN, numbers=numbers)
        self.says([(0, 3), (0, 4), (2, 3), (2, 4)], cores, **GIVEN)
        self.says([(0, 2), (3, 4)], drops, **GIVEN)
        self.says((0, 3), core, **GIVEN)
        self.says((3, 4), drop, **GIVEN)
        self.says((0, 3), blame, **GIVEN)
        self.says((0, 2), fewest_dropped, **GIVEN)
        self.says((3, 4), loosened, **GIVEN)
        self.says(((HOPES[0][1:], (), ()), NAILED[1:2]), cut, wish=HOPES, begun=NAILED, numbers=(1, 3))
        self.says((((), ("w",), ("a",)), ()), cut, wish=(HOPES[0], ("w",), ("a",)), begun=NAILED, numbers=())

    def test_no_asks_and_no_clash(self):
        bare = {"registry": STALL, "wish": ((), (), ()), "begun": ()}
        calm = {"registry": STALL, "wish": HOPES, "begun": NAILED[:1]}
        for given in (bare, calm):
            for function in (core, blame):
                self.refuses(NoPaper(), function, **given)
            self.says([], cores, **given)
            self.says([()], drops, **given)
            for function in (drop, fewest_dropped, loosened):
                self.says((), function, **given)
        self.says(False, clashing, **bare, numbers=())

    def test_needs_that_do_not_count(self):
        wish = ((("hub", (), (), NO), ("ink", (), (), YES), ("hub", (), (), ("on", "w"))), (), ())
        self.says([(1,)], cores, registry=STALL, wish=wish, begun=())
        self.says([(1,), (2,)], cores, registry=STALL, wish=(wish[0], ("w",), ()), begun=())
        self.says([(1,)], drops, registry=STALL, wish=wish, begun=())
        # The needs alone clash.
        self.refuses(NoPaper(), loosened, registry=STALL, wish=wish, begun=())
        self.refuses(NoPaper(), loosened, registry=STALL, wish=wish, begun=NAILED)

    def test_asks_of_what_nobody_speaks_of(self):
        zoo, wish = ("zoo", ""), (HOPES[0][1:], (), ())
        begun = ((INK, (9, 0, 0, 0)), (PEN, None), (("pen", "p"), ONE), (zoo, None), (("zoo", "p"), TWO))
        self.says([(0, 2), (1,), (3,), (5,)], cores, registry=STALL, wish=wish, begun=begun)
        self.says([(0, 1, 3, 5), (1, 2, 3, 5)], drops, registry=STALL, wish=wish, begun=begun)
        self.says((1, 2, 3, 5), loosened, registry=STALL, wish=wish, begun=begun)
        self.assertEqual({own for own in STRANGE if own[0] == "zoo"}, {zoo, ("zoo", "p")})


class LeastMeets(Case):
    def test_beside_all_sets(self):
        rng = random.Random(1703)
        for _ in range(150):
            top = rng.randint(0, 7)
            sets = tuple([tuple(sorted(rng.sample(range(top + 1), rng.randint(min(1, rng.randint(0, 20)), min(4, top + 1)))))
                          for _ in range(rng.randint(0, 8))])
            meeting = [own for own in subsets(range(8)) if all(set(own) & set(one) for one in sets)]
            best = sorted([own for own in meeting if not any(set(one) < set(own) for one in meeting)])
            self.same(least_meets(sets), best)

    def test_they_say(self):
        self.says([()], least_meets, sets=())
        self.says([], least_meets, sets=((),))
        self.says([], least_meets, sets=((1, 2), ()))
        self.says([(2,), (3, 4)], least_meets, sets=((2, 3), (2, 4)))
        self.says([(0, 7), (5,)], least_meets, sets=((5, 7), (0, 5), (0, 5)))


class Papers(Case):
    def test_all_papers_beside_plain_ones(self):
        rng, seen = random.Random(1704), [0, 0, 0]
        for registry, wish, begun in rows(rng, 40, 80):
            plain, given = PlainAsks(registry, wish, begun), (registry, wish, begun)
            papers = []
            for numbers in subsets(plain.everything):
                for k, (write, is_one) in enumerate(((core_paper, plain.is_core), (drop_paper, plain.is_drop))):
                    if is_one(numbers):
                        papers.append(write(*given, numbers))
                        self.assertEqual(papers[-1][0], numbers)
                        self.assertFalse(has_lists(papers[-1]))
                        self.same(write(*as_lists(given), list(numbers)), papers[-1])
                        judge = (plain.is_core_paper, plain.is_drop_paper)[k]
                        self.assertTrue(judge(papers[-1]))
                        self.assertIs((is_core_paper, is_drop_paper)[k](*given, papers[-1]), True)
                        seen[k] += 1
                    else:
                        with self.assertRaises(NoPaper):
                            write(*given, numbers)
            seen[2] += self.look_at_others(rng, plain, papers)
        self.assertGreater(min(seen), 30, seen)

    def look_at_others(self, rng, plain, papers):
        """PAPERS put together from those of other sets: judged as plainly."""
        found = 0
        for one, other in itertools.islice(itertools.product(papers, papers), 30):
            for k in range(3):
                mixed = (*one[:k], other[k], *one[k + 1:])
                for judge, plainly in ((is_core_paper, plain.is_core_paper), (is_drop_paper, plain.is_drop_paper)):
                    told = judge(*plain.given, mixed)
                    try:
                        expected = plainly(mixed)
                    except (TypeError, ValueError, KeyError, AttributeError, IndexError):
                        expected = False
                    self.assertIs(told, expected, (plain.given, mixed))
                    found += told
        return found

    def test_bent_papers(self):
        whole, given = core_paper(**GIVEN, numbers=(2, 4)), dict(GIVEN)
        self.bars(is_core_paper, bent(whole), **given)
        self.bars(is_drop_paper, [*bent(drop_paper(**GIVEN, numbers=(0, 2))), whole], **given)
        self.bars(is_core_paper, [*ODD_THINGS, (whole[0], whole[1], whole[2][::-1]), (whole[0][::-1], *whole[1:]),
                                  (whole[0], whole[1], whole[2][:1]), ((2, 9), *whole[1:]), ((-1, 2), *whole[1:]),
                                  ((2, True), *whole[1:]), ((2, 2), *whole[1:]), (whole[0][::-1], whole[1], whole[2][::-1]),
                                  ((2, 2, 4), whole[1], whole[2][:1] + whole[2])], **given)
        self.bars(is_drop_paper, ODD_THINGS, **given)
        self.knows(is_core_paper, [whole], **given)
        self.knows(is_drop_paper, [drop_paper(**GIVEN, numbers=(3, 4))], **given)
        # The same numbers cut otherwise: k of LEAVES counts the needs that are left.
        shifted = core_paper(STALL, HOPES, ((INK, ONE), (PEN, None)), (1, 3))
        self.assertEqual(shifted[1], ("leaf", ("wish", 0, "")))
        self.bars(is_core_paper, [(*shifted[:1], ("leaf", ("wish", 1, "")), *shifted[2:])],
                  registry=STALL, wish=HOPES, begun=((INK, ONE), (PEN, None)))

    def test_they_say(self):
        calm = {"registry": STALL, "wish": HOPES, "begun": ()}
        lock = ((HUB, TWO), (INK, TWO), (PEN, TWO))
        self.says(((), lock, ()), drop_paper, **calm, numbers=())
        self.knows(is_drop_paper, [((), lock, ())], **calm)
        self.bars(is_core_paper, [((), lock, ()), ((), ("leaf", ("wish", 0, "")), ())], **calm)
        for numbers in ((), (0,), (0, 1)):
            self.refuses(NoPaper(), core_paper, **calm, numbers=numbers)
        for numbers in ((0,), (0, 1)):
            self.refuses(NoPaper(), drop_paper, **calm, numbers=numbers)
        for numbers in ((), (0,), (0, 1), (0, 2, 3), (1, 3)):
            self.refuses(NoPaper(), core_paper, **GIVEN, numbers=numbers)
            self.refuses(NoPaper(), drop_paper, **GIVEN, numbers=numbers)
        for turned in (as_lists(GIVEN["registry"]), STALL):
            self.assertIs(is_core_paper(turned, HOPES, NAILED, core_paper(**GIVEN, numbers=(0, 3))), True)


class Raised(Case):
    def test_no_need(self):
        for function in OF_NUMBERS:
            self.refuses(NoNeed(5), function, **GIVEN, numbers=(0, 5, 7))
            self.refuses(NoNeed(-2), function, **GIVEN, numbers=(-2, -1, 9))
        self.refuses(NoNeed(2), cut, wish=HOPES, begun=(), numbers=(1, 2, 3))
        self.refuses(NoNeed(0), cut, wish=((), (), ()), begun=(), numbers=(0,))

    def test_too_many_first_of_all(self):
        bare = ((), (), ())
        for registry in (WIDER, OVER):
            for function in OF_ALL:
                self.refuses(TooMany(), function, registry=registry, wish=bare, begun=())
            for function in OF_NUMBERS:
                self.refuses(TooMany(), function, registry=registry, wish=bare, begun=(), numbers=(4,))
        self.says(False, clashing, registry=WIDE, wish=bare, begun=((("ape", ""), (1, 0, 0, 0)),), numbers=(0,))

    def test_these_never_tell_too_many(self):
        wish = ((("zoo", EVERY, (), YES),), (), ())
        no_zoo = ("leaf", ("none", ("zoo", ""), EVERY))
        refusal = ("join", ("zoo", ""), ("leaf", ("wish", 0, "")), no_zoo)
        self.says((wish, ()), cut, wish=wish, begun=(), numbers=(0,))
        for registry in (WIDER, OVER):
            self.knows(is_core_paper, [((0,), refusal, ((),))], registry=registry, wish=wish, begun=())
            self.knows(is_drop_paper, [((0,), (), (refusal,))], registry=registry, wish=wish, begun=())


if __name__ == "__main__":
    unittest.main()
