"""[5]: RANGES, VERSION by VERSION around each end of theirs."""

import random
import unittest

from newestfit.errors import NoPaper
from newestfit.ranges import all_but, are_apart, below, both_of, by_rows, close_to, compatible, either_of, from_on
from newestfit.ranges import in_range, is_inside, is_range, just, least_in, least_release_in, many_in, newest_in
from newestfit.ranges import next_in, of_range, parting_version, range_cuts, range_grains, range_of, shortened
from newestfit.ranges import taken_out
from newestfit.versions import next_version
from support import Case, EVERY, FIRST, around, made_range, made_version, plain_cuts, plainly_holds, subsets

HUGE = 10 ** 30
ONE, TWO, THREE = (1, 0, 0, 0), (2, 0, 0, 0), (3, 0, 0, 0)


class Ranges(Case):
    def setUp(self):
        self.rng = random.Random(5)

    def spans(self, many, times=150):
        """So many RANGES, made up, again and again; now and then some of them are one."""
        for _ in range(times):
            spans = [made_range(self.rng) for _ in range(many)]
            if many > 1 and self.rng.random() < 0.2:
                spans[-1] = spans[0]
            yield tuple(spans)

    def holds_just(self, span, versions, wanted):
        """span is a RANGE that holds of versions those that wanted says."""
        self.assertIs(is_range(span), True, span)
        for version in versions:
            self.assertEqual(plainly_holds(span, version), wanted(version), (span, version))

    def test_is_range(self):
        self.knows(is_range, ((), EVERY, (((1, 0, 0, 0), None),), ((FIRST, (0, 0, 0, -8)),),
                              ((ONE, TWO),), ((ONE, TWO), (THREE, None)), (((0, 0, HUGE, 0), None),),
                              ((ONE, (1, 0, 1, -9)), ((1, 0, 1, -8), (1, 0, 1, 0)))))
        self.bars(is_range, (((ONE, ONE),), ((TWO, ONE),), ((ONE, TWO), (TWO, THREE)), ((ONE, None), (THREE, None)),
                             ((ONE, THREE), (TWO, None)), ((TWO, THREE), (FIRST, ONE)), ((ONE,),), ((ONE, TWO, THREE),),
                             (ONE, TWO), ((None, ONE),), ((ONE, True),), ((ONE, 0),), ((ONE, ()),), [(ONE, TWO)],
                             ([ONE, TWO],), (([1, 0, 0, 0], TWO),), ((ONE, [2, 0, 0, 0]),), (((1, 0, 0, 1), TWO),),
                             ((ONE, (2, 0, 0, -10)),), ((ONE, (2, 0, 0, False)),), "*", None, ((), ()), (None,)))

    def test_range_of_pairs_of_all_kinds(self):
        for _ in range(400):
            pairs = []
            for _ in range(self.rng.randint(0, 8)):
                high = made_version(self.rng) if self.rng.random() < 0.85 else None
                pairs.append((made_version(self.rng), high))
            versions = around([pairs])
            self.holds_just(range_of(tuple(pairs)), versions, lambda own: plainly_holds(pairs, own))

    def test_range_of_says(self):
        for pairs, span in (((), ()), (((TWO, None), (ONE, TWO)), ((ONE, None),)), (((ONE, ONE), (TWO, ONE)), ()),
                            (((ONE, THREE), (TWO, THREE)), ((ONE, THREE),)),
                            (((ONE, THREE), (ONE, TWO)), ((ONE, THREE),)),
                            (((FIRST, None), (ONE, TWO)), EVERY),
                            (((TWO, THREE), (FIRST, ONE)), ((FIRST, ONE), (TWO, THREE))),
                            (((ONE, None), (TWO, None), (FIRST, ONE)), EVERY),
                            (((ONE, (1, 0, 1, -9)), ((1, 0, 1, -9), TWO)), ((ONE, TWO),))):
            self.says(span, range_of, pairs=pairs)

    def test_in_range(self):
        for span, in self.spans(1):
            for version in around([span]):
                self.same(in_range(span, version), plainly_holds(span, version))
        for version, told in ((ONE, True), (TWO, False), ((2, 0, 0, -1), True), ((1, 0, 0, -1), False)):
            self.says(told, in_range, span=((ONE, TWO),), version=version)
        self.says(True, in_range, span=EVERY, version=FIRST)
        self.says(False, in_range, span=(), version=FIRST)

    def test_ranges_of_a_version(self):
        versions = around([((made_version(self.rng), made_version(self.rng)),) for _ in range(4)])
        for version in versions:
            more = around([((version, None),)], versions)
            a, b, c, _ = version
            self.holds_just(just(version), more, lambda own: own == version)
            self.holds_just(from_on(version), more, lambda own: own >= version)
            self.holds_just(below(version), more, lambda own: own < version)
            self.holds_just(close_to(version), more, lambda own: own >= version and own[:2] == (a, b))
            fixed = 1 if a > 0 else 2 if b > 0 else 3
            self.holds_just(compatible(version), more, lambda own: own >= version and own[:fixed] == version[:fixed])

    def test_ranges_of_a_version_say(self):
        early, high = (0, 0, 4, -2), (HUGE, 1, 2, -9)
        self.says(((early, (0, 0, 4, -1)),), just, version=early)
        self.says(((ONE, (1, 0, 1, -9)),), just, version=ONE)
        self.says(((early, None),), from_on, version=early)
        self.says(((FIRST, early),), below, version=early)
        self.says((), below, version=FIRST)
        self.says(EVERY, from_on, version=FIRST)
        self.says(((early, (0, 0, 5, -9)),), compatible, version=early)
        self.says((((0, 4, 2, 0), (0, 5, 0, -9)),), compatible, version=(0, 4, 2, 0))
        self.says(((high, (HUGE + 1, 0, 0, -9)),), compatible, version=high)
        self.says(((high, (HUGE, 2, 0, -9)),), close_to, version=high)
        self.says(((FIRST, (0, 1, 0, -9)),), close_to, version=FIRST)
        self.says(((FIRST, (0, 0, 1, -9)),), compatible, version=FIRST)

    def test_put_together(self):
        for one, other in self.spans(2):
            versions = around([one, other])
            first, second = (lambda own: plainly_holds(one, own)), (lambda own: plainly_holds(other, own))
            self.holds_just(both_of(one, other), versions, lambda own: first(own) and second(own))
            self.holds_just(either_of(one, other), versions, lambda own: first(own) or second(own))
            self.holds_just(all_but(one), versions, lambda own: not first(own))
            self.holds_just(taken_out(one, other), versions, lambda own: first(own) and not second(own))
            self.same(is_inside(one, other), all(second(own) for own in versions if first(own)))
            self.same(are_apart(one, other), not any(first(own) and second(own) for own in versions))
            unlike = [own for own in versions if first(own) != second(own)]
            self.same(parting_version(one, other), unlike[0] if unlike else None)
            self.assertEqual(one == other, not unlike)
            unlike_cuts = [own for own in plain_cuts([one, other]) if first(own) != second(own)]
            self.assertEqual(unlike_cuts[:1], unlike[:1])

    def test_put_together_says(self):
        a, b = ((ONE, THREE),), ((TWO, None),)
        for function, expected in ((both_of, ((TWO, THREE),)), (either_of, ((ONE, None),)), (taken_out, ((ONE, TWO),)),
                                   (is_inside, False), (are_apart, False), (parting_version, ONE)):
            self.says(expected, function, one=a, other=b)
        for function, expected in ((both_of, ()), (either_of, a), (taken_out, a), (is_inside, False),
                                   (are_apart, True), (parting_version, ONE)):
            self.says(expected, function, one=a, other=())
        for function, expected in ((both_of, b), (either_of, EVERY), (taken_out, ()), (is_inside, True),
                                   (are_apart, False), (parting_version, FIRST)):
            self.says(expected, function, one=b, other=EVERY)
        for function, expected in ((both_of, EVERY), (either_of, EVERY), (taken_out, ()), (is_inside, True),
                                   (are_apart, False), (parting_version, None)):
            self.says(expected, function, one=EVERY, other=EVERY)
        self.says(True, are_apart, one=((ONE, TWO),), other=((TWO, THREE),))
        self.says(((ONE, THREE),), either_of, one=((ONE, TWO),), other=((TWO, THREE),))
        self.says(EVERY, all_but, span=())
        self.says((), all_but, span=EVERY)
        self.says(((FIRST, ONE), (THREE, None)), all_but, span=a)
        self.says(((FIRST, TWO),), all_but, span=b)
        self.says(((ONE, None),), all_but, span=((FIRST, ONE),))

    def test_cuts_and_grains(self):
        for spans in self.spans(3, 100):
            self.same(range_cuts(spans), plain_cuts(spans))
            grains = range_grains(spans)
            self.assertEqual(grains[0][0], FIRST)
            self.assertEqual([own[1] for own in grains], [own[0] for own in grains[1:]] + [None])
            self.assertTrue(all(grains[k][2] != grains[k + 1][2] for k in range(len(grains) - 1)))
            for version in around(spans):
                mine = [own for own in grains if plainly_holds([own[:2]], version)]
                self.assertEqual(len(mine), 1)
                self.same(mine[0][2], tuple([k for k in range(3) if plainly_holds(spans[k], version)]))

    def test_cuts_and_grains_say(self):
        self.says([FIRST], range_cuts, spans=())
        self.says([FIRST], range_cuts, spans=((), EVERY))
        self.says([FIRST, ONE, TWO], range_cuts, spans=(((ONE, TWO),), ((TWO, None),), ((ONE, None),)))
        self.says([(FIRST, None, ())], range_grains, spans=())
        self.says([(FIRST, None, (1, 2))], range_grains, spans=((), EVERY, EVERY))
        self.says([(FIRST, ONE, ()), (ONE, TWO, (0,)), (TWO, None, (1,))], range_grains,
                  spans=(((ONE, TWO),), ((TWO, None),)))

    def test_by_rows(self):
        for spans in self.spans(3, 60):
            rows = tuple(self.rng.sample(subsets(range(4)), self.rng.randint(0, 6)))
            wanted = lambda own: tuple([k for k in range(3) if plainly_holds(spans[k], own)]) in rows
            self.holds_just(by_rows(spans, rows), around(spans), wanted)
        a, b = ((ONE, THREE),), ((TWO, None),)
        for rows, expected in (((), ()), (((0,),), ((ONE, TWO),)), (((), (0, 1)), ((FIRST, ONE), (TWO, THREE))),
                               (((0,), (0, 1), (1,)), ((ONE, None),)), (((2,), (0, 2)), ())):
            self.says(expected, by_rows, spans=(a, b), rows=rows)
        self.says(EVERY, by_rows, spans=(), rows=((),))
        self.says((), by_rows, spans=(), rows=((0,),))
        self.says(EVERY, by_rows, spans=(a, b), rows=tuple(subsets(range(6))))

    def test_whole_grains_put_together(self):
        for spans in self.spans(3, 60):
            grains = range_grains(spans)
            rows = tuple(self.rng.sample(subsets(range(3)), self.rng.randint(1, 6)))
            told = by_rows(spans, rows)
            taken = [(low, high) for low, high, numbers in grains if numbers in rows]
            for low, high in [own[:2] for own in grains]:
                part = range_of(((low, high),))
                self.assertIs(is_inside(part, told), (low, high) in taken)
                self.assertIs(are_apart(part, told), (low, high) not in taken)
            # Neighbours become one pair, in whatever order they come: then it is a RANGE, and the only one.
            joined = []
            for low, high in taken:
                if joined and joined[-1][1] == low:
                    joined[-1] = (joined[-1][0], high)
                else:
                    joined.append((low, high))
            self.same(told, tuple(joined))
            self.assertIs(is_range(told), True)
            self.rng.shuffle(taken)
            self.same(range_of(tuple(taken)), told)

    def test_least_newest_next(self):
        for span, in self.spans(1):
            versions = [own for own in around([span]) if plainly_holds(span, own)]
            if versions:
                self.same(least_in(span), versions[0])
            newest = newest_in(span)
            if newest is not None:
                self.same(newest, versions[-1])
            elif span and span[-1][1] is not None:
                # Below this end there is always a newer one.
                self.assertEqual(span[-1][1][2:], (0, -9))
            for version in around([span]):
                later = [own for own in versions + [version] if own >= version and plainly_holds(span, own)]
                self.same(next_in(span, version), min(later, default=None))
            out = [own for own in versions if own[3] == 0]
            self.same(least_release_in(span), min(out, default=None))

    def test_least_newest_next_say(self):
        self.refuses(NoPaper(), least_in, span=())
        self.says(FIRST, least_in, span=EVERY)
        self.says(ONE, least_in, span=((ONE, TWO), (THREE, None)))
        for span, newest in (((), None), (EVERY, None), (((ONE, (2, 0, 0, -9)),), None), (((ONE, TWO),), (2, 0, 0, -1)),
                             (((ONE, (1, 0, 1, -9)),), ONE), (((FIRST, ONE), (TWO, (2, 0, 1, -8))), (2, 0, 1, -9)),
                             (((FIRST, ONE), (TWO, None)), None), (((ONE, (1, 4, 0, -9)),), None)):
            self.says(newest, newest_in, span=span)
        for version, told in ((FIRST, ONE), (ONE, ONE), ((1, 5, 0, -3), (1, 5, 0, -3)), (TWO, THREE), (THREE, THREE),
                              ((9, 0, 0, 0), (9, 0, 0, 0))):
            self.says(told, next_in, span=((ONE, TWO), (THREE, None)), version=version)
        self.says(None, next_in, span=((ONE, TWO),), version=TWO)
        self.says(None, next_in, span=(), version=FIRST)
        for span, told in (((), None), (EVERY, (0, 0, 0, 0)), ((((1, 0, 0, -3), ONE),), None),
                           ((((1, 0, 0, -3), (1, 0, 1, -9)),), ONE),
                           ((((1, 0, 0, -3), ONE), ((2, 0, 0, -1), (2, 0, 0, 0)), (THREE, None)), THREE),
                           ((((5, 5, HUGE, -1), None),), (5, 5, HUGE, 0))):
            self.says(told, least_release_in, span=span)

    def test_many_in(self):
        for span, in self.spans(1):
            near = [pair for pair in span if pair[1] is not None and pair[0][:2] == pair[1][:2]]
            many = 0
            for low, high in near:
                while low < high:
                    low, many = next_version(low), many + 1
            self.same(many_in(span), many if near == list(span) else None)
        for span, many in (((), 0), (EVERY, None), (((ONE, TWO),), None), (((ONE, (1, 0, 1, -9)),), 1),
                           (((ONE, (1, 0, HUGE, 0)),), 10 * HUGE),
                           (((ONE, (1, 0, 2, -5)), ((1, 0, 2, 0), (1, 0, 3, 0))), 25),
                           (((ONE, (1, 0, 2, -5)), (TWO, None)), None),
                           (((ONE, (1, 1, 0, -9)), (TWO, (2, 0, 1, 0))), None)):
            self.says(many, many_in, span=span)

    def test_of_range(self):
        for span, in self.spans(1, 60):
            versions = tuple(self.rng.choices(around([span]), k=self.rng.randint(0, 9)))
            self.same(of_range(span, versions), tuple(sorted({own for own in versions if plainly_holds(span, own)})))
        self.says((ONE, (1, 5, 0, -1)), of_range, span=((ONE, TWO),), versions=((1, 5, 0, -1), TWO, ONE, FIRST, ONE))
        self.says((), of_range, span=(), versions=(ONE,))
        self.says((), of_range, span=EVERY, versions=())

    def test_shortened(self):
        for span, in self.spans(1):
            versions = tuple(self.rng.choices(around([span]), k=self.rng.randint(0, 9)))
            told = shortened(span, versions)
            self.assertIs(is_range(told), True)
            row = sorted(set(versions))
            held = [plainly_holds(span, own) for own in row]
            self.assertEqual([plainly_holds(told, own) for own in row], held)
            # As few pairs as there are runs of VERSIONS held: a run begins where the one ahead is not held.
            self.assertEqual(len(told), sum(held[k] and not (k and held[k - 1]) for k in range(len(row))))
            for low, high in told:
                self.assertIn(low, row)
                later = [own for own in row if own > low and not plainly_holds(span, own)]
                self.assertEqual(high, min(later, default=None))
        row = (THREE, ONE, TWO, ONE)
        for span, told in (((), ()), (EVERY, ((ONE, None),)), (((FIRST, (1, 9, 0, 0)),), ((ONE, TWO),)),
                           (((ONE, TWO), ((2, 1, 0, 0), None)), ((ONE, TWO), (THREE, None))),
                           (((TWO, (2, 1, 0, 0)),), ((TWO, THREE),)),
                           ((((1, 1, 0, 0), (1, 2, 0, 0)),), ())):
            self.says(told, shortened, span=span, versions=row)
        self.says((), shortened, span=EVERY, versions=())


if __name__ == "__main__":
    unittest.main()
