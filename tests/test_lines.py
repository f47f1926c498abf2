"""[11]: TERMS as sets of STATES, LINES beside LOCKS tried, LEAVES by own looking."""

import itertools
import random
import unittest

from newestfit.errors import NoPaper, Unfit
from newestfit.lines import is_beginning, is_leaf, is_line, is_parting_lock, is_term, leaf_line, leaves, line_begun
from newestfit.lines import line_inside, line_met, line_of, lines_joined, met_leaves, parting_lock, term_at, term_both
from newestfit.lines import term_either, term_holds, term_inside, term_not
from models import STRANGE, just_one, made_beginning, made_lock, made_open_lock, none_leaves, plain_leaf, possible_leaves
from models import plain_leaves, samples_of, sets_joined, sets_of_leaf, sets_of_line, shut_span
from support import APP, Case, EARLY, EVERY, FIRST, FROM_TWO, NET, NEW, NO, ODD_THINGS, OLD, ONE, TWO, YARD, YES
from support import around, as_lists, bent, made_range, made_registry, made_wish, plain_order, plainly_fits
from support import plainly_holds, small_cases

A, B, C = ("a", ""), ("a", "p"), ("b", "")
APP_ITEM, LIB, FAST, WEB, NET_ITEM = ("app", ""), ("lib", ""), ("lib", "fast"), ("app", "web"), ("net", "")
UNDER_TWO = ((FIRST, TWO),)
WISH = ((("app", EVERY, ("web",), YES), ("net", EVERY, (), ("on", "win"))), ("unix",), ("net",))
BARE = ((), (), ())
ITEMS = (A, B, C, ("b", "p"))
# A RELEASE that needs and clashes with itself.
RING = ("ring", ONE, (("ring", FROM_TWO, ("p",), YES), ("ring", EVERY, (), YES)), (("p", (("ring", EVERY, ("p",), YES),)),),
        (("ring", EVERY), ("ring", FROM_TWO)), False)


def made_term(rng, item=None):
    absent, span = rng.random() < 0.5, rng.choice((made_range(rng), made_range(rng), EVERY, (), UNDER_TWO, FROM_TWO))
    return (item or rng.choice(ITEMS), absent, span)


def made_line(rng, most=3):
    terms = {item: made_term(rng, item) for item in rng.sample(ITEMS, rng.randint(0, most))}
    return tuple([terms[item] for item in sorted(terms) if terms[item][1:] != (True, EVERY)])


def holds(term, state):
    return term[1] if state is None else plainly_holds(term[2], state)


def states_near(terms):
    return [None, *around([span for _, _, span in terms])]


def samples_near(lines):
    """A dict of STATES by ITEMS that tells apart what these LINES do."""
    return {item: states_near([term for line in lines for term in line if term[0] == item]) for item in ITEMS}


def locks_near(lines):
    """All LOCKS, as dicts, of a few STATES of each ITEM: one for each way in which the LINES can hold there."""
    rows = []
    for item in ITEMS:
        ways = {}
        for state in states_near([term for line in lines for term in line if term[0] == item]):
            ways.setdefault(tuple([holds(term, state) for line in lines for term in line if term[0] == item]), state)
        rows.append([(item, state) for state in ways.values()])
    return [dict(row) for row in itertools.product(*rows)]


def meets(line, there):
    return all(holds(term, there.get(term[0])) for term in line)


class Kinds(Case):
    def test_is_term(self):
        good = ((LIB, True, EVERY), (FAST, False, ()), (LIB, True, UNDER_TWO), (A, False, ((ONE, TWO), ((3, 0, 0, 0), None))))
        self.knows(is_term, good)
        for term in good:
            self.bars(is_term, list(bent(term)))
        self.bars(is_term, ((LIB, None, EVERY), (LIB, 1, EVERY), (LIB, True), (LIB, True, EVERY, ()), ("lib", True, ()),
                            (LIB, True, ((TWO, ONE),)), (("", ""), True, ()), (LIB, EVERY, True)))

    def test_is_line(self):
        good = ((), ((LIB, True, UNDER_TWO),), ((A, False, EVERY), (B, True, ()), (C, False, ())))
        self.knows(is_line, good)
        for line in good:
            self.bars(is_line, list(bent(line)))
        self.bars(is_line, (((LIB, True, EVERY),), ((A, False, ()), (LIB, True, EVERY)), ((B, True, ()), (A, True, ())),
                            ((A, True, ()), (A, False, ())), (LIB, True, ()), (((LIB, True),),), "lines"))

    def test_is_beginning(self):
        good = ((), ((LIB, ONE),), ((LIB, None),), ((A, None), (B, EARLY), (C, None)), ((("zoo", "x"), (9, 9, 9, -9)),))
        self.knows(is_beginning, good)
        for beginning in good:
            self.bars(is_beginning, [own for own in bent(beginning) if own not in good])
        self.bars(is_beginning, (((B, None), (A, None)), ((A, None), (A, ONE)), ((A, False),), ((A, ()),), ((A,),), (A, None),
                                 ((A, (1, 0, 0)),), (("a", None),)))

    def test_is_leaf(self):
        rng = random.Random(111)
        seen = 0
        for registry, wish in small_cases(rng, 25):
            for leaf in possible_leaves(registry, wish):
                is_one = plain_leaf(registry, wish, leaf) is not None
                self.assertIs(is_leaf(registry, wish, leaf), is_one, leaf)
                seen += is_one
                if not is_one:
                    with self.assertRaises(Unfit):
                        leaf_line(registry, wish, leaf)
            for item in [*plain_order(registry, wish)[1], *STRANGE]:
                for span in (EVERY, (), FROM_TWO, made_range(rng), shut_span(registry, wish, item)):
                    leaf = ("none", item, span)
                    self.assertIs(is_leaf(registry, wish, leaf), plain_leaf(registry, wish, leaf) is not None)
        self.assertGreater(seen, 200)

    def test_is_leaf_of_strict_things(self):
        good = (("wish", 0, ""), ("wish", 0, "web"), ("need", APP_ITEM, ONE, 0, "fast"), ("need", WEB, ONE, 0, ""),
                ("part", WEB, ONE), ("part", FAST, ONE), ("clash", "lib", TWO, 0), ("need", NET_ITEM, EARLY, 0, ""))
        more = good + (("none", LIB, ()), ("none", NET_ITEM, FROM_TWO), ("none", ("zoo", "x"), EVERY),
                       ("none", FAST, FROM_TWO))
        for leaf in more:
            self.assertIs(is_leaf(YARD, WISH, leaf), True, leaf)
            self.assertIs(is_leaf(as_lists(YARD), as_lists(WISH), leaf), True, leaf)
            self.bars(is_leaf, list(bent(leaf)), registry=YARD, wish=WISH)
        self.says(True, is_leaf, registry=YARD, wish=WISH, thing=("clash", "lib", TWO, 0))
        for thing in ODD_THINGS:
            self.assertIs(is_leaf(YARD, WISH, thing), False)
        self.bars(is_leaf, (("wish", 1, ""), ("wish", 0, "fast"), ("wish", -1, ""), ("wish", False, ""), ("wish", 2, ""),
                            ("need", APP_ITEM, ONE, 1, ""), ("need", APP_ITEM, ONE, -1, ""), ("need", FAST, TWO, 0, ""),
                            ("need", APP_ITEM, TWO, 0, ""), ("part", LIB, ONE), ("part", FAST, TWO), ("clash", "lib", ONE, 0),
                            ("clash", "lib", TWO, 1), ("clash", "lib", TWO, -1), ("clash", LIB, TWO, 0),
                            ("none", LIB, EVERY), ("none", LIB, UNDER_TWO), ("none", NET_ITEM, EVERY), ("none", LIB),
                            ("none", LIB, None), ("some", LIB, EVERY), ("leaf", ("wish", 0, ""))),
                  registry=YARD, wish=WISH)
        # Of a RELEASE that is pulled, or early where early ones are not taken, there are none.
        shut = (APP, OLD, (*NEW[:5], True), NET)
        self.bars(is_leaf, (("clash", "lib", TWO, 0), ("need", NET_ITEM, EARLY, 0, "")), registry=shut, wish=BARE)
        self.assertIs(is_leaf(shut, BARE, ("none", LIB, FROM_TWO)), True)
        # Of a NEED whose MARK does not hold neither.
        self.bars(is_leaf, (("need", WEB, ONE, 0, ""),), registry=YARD, wish=(WISH[0], (), ()))


class Terms(Case):
    def test_by_states(self):
        rng = random.Random(112)
        for _ in range(400):
            one, other = made_term(rng, LIB), made_term(rng, LIB)
            near = states_near((one, other))
            both, either, turned = term_both(one, other), term_either(one, other), term_not(one)
            for told in (both, either, turned):
                self.assertIs(is_term(told), True)
                self.assertEqual(told[0], LIB)
            for state in near:
                self.assertIs(term_holds(one, state), holds(one, state))
                self.assertIs(term_holds(both, state), holds(one, state) and holds(other, state))
                self.assertIs(term_holds(either, state), holds(one, state) or holds(other, state))
                self.assertIs(term_holds(turned, state), not holds(one, state))
            inside = all(holds(other, state) for state in near if holds(one, state))
            self.assertIs(term_inside(one, other), inside)

    def test_terms_say(self):
        always, never = (LIB, True, EVERY), (LIB, False, ())
        term = (LIB, True, UNDER_TWO)
        for state, told in ((None, True), (ONE, True), (TWO, False), ((1, 9, 9, -9), True)):
            self.says(told, term_holds, term=term, state=state)
            self.says(not told, term_holds, term=(LIB, False, FROM_TWO), state=state)
            self.says(True, term_holds, term=always, state=state)
            self.says(False, term_holds, term=never, state=state)
        self.says((LIB, False, ((ONE, TWO),)), term_both, one=term, other=(LIB, False, ((ONE, None),)))
        self.says(never, term_both, one=term, other=(LIB, False, FROM_TWO))
        self.says(always, term_either, one=term, other=(LIB, False, FROM_TWO))
        self.says((LIB, False, FROM_TWO), term_not, term=term)
        self.says(never, term_not, term=always)
        self.says(always, term_not, term=never)
        for one, other, told in ((never, term, True), (term, always, True), (term, term, True), (always, term, False),
                                 (term, (LIB, False, UNDER_TWO), False), ((LIB, False, UNDER_TWO), term, True),
                                 (term, (LIB, True, ((FIRST, ONE),)), False), (never, never, True)):
            self.says(told, term_inside, one=one, other=other)
        for function in (term_both, term_either, term_inside):
            self.refuses(Unfit(), function, one=always, other=(FAST, True, EVERY))
            self.refuses(Unfit(), function, one=(LIB, False, ()), other=(("app", ""), False, ()))


class Lines(Case):
    def test_line_of_and_term_at(self):
        rng = random.Random(113)
        for _ in range(200):
            terms = tuple([made_term(rng) for _ in range(rng.randint(0, 6))])
            line = line_of(terms)
            self.assertIs(is_line(line), True)
            samples = samples_near((terms,))
            found = {item: {state for state in samples[item] if meets([own for own in terms if own[0] == item], {item: state})}
                     for item in ITEMS}
            self.assertEqual(sets_of_line(line, samples),
                             {item: found[item] for item in ITEMS if len(found[item]) < len(samples[item])})
            for item in ITEMS:
                mine = [own for own in line if own[0] == item]
                self.same(term_at(line, item), mine[0] if mine else (item, True, EVERY))

    def test_lines_say(self):
        one, from_two = (APP_ITEM, False, just_one(ONE)), (LIB, True, FROM_TWO)
        self.says((one, from_two), line_of, terms=(from_two, one, from_two))
        self.says((), line_of, terms=())
        self.says((), line_of, terms=((LIB, True, EVERY), (FAST, True, EVERY)))
        self.says(((LIB, False, ()),), line_of, terms=(from_two, (LIB, False, UNDER_TWO)))
        self.says(((LIB, False, ((ONE, TWO),)),), line_of, terms=((LIB, True, UNDER_TWO), (LIB, True, EVERY), (LIB, False, ((ONE, None),))))
        self.says(from_two, term_at, line=(one, from_two), item=LIB)
        self.says((FAST, True, EVERY), term_at, line=(one, from_two), item=FAST)
        self.says((FAST, True, EVERY), term_at, line=(), item=FAST)

    def test_met_and_begun(self):
        rng = random.Random(114)
        for _ in range(300):
            line = made_line(rng)
            states = [None, *around([span for _, _, span in line])]
            told = tuple([(item, rng.choice(states)) for item in ITEMS if rng.random() < 0.7])
            lock = tuple([pair for pair in told if pair[1] is not None])
            self.assertIs(line_met(line, lock), meets(line, dict(lock)))
            begun = meets(line, dict(told)) and {term[0] for term in line} <= set(dict(told))
            self.assertIs(line_begun(line, told), begun)
            if begun:
                # A LOCK that has a BEGINNING meets all LINES that this meets.
                more = {item: rng.choice(states) for item in ITEMS}
                more.update(told)
                rows = tuple([(item, more[item]) for item in ITEMS if more[item] is not None])
                self.assertIs(line_met(line, rows), True)

    def test_met_and_begun_say(self):
        line = ((APP_ITEM, False, just_one(ONE)), (LIB, True, FROM_TWO))
        for told, met in ((((APP_ITEM, ONE), (LIB, None)), True), (((APP_ITEM, ONE), (LIB, TWO)), True),
                          (((APP_ITEM, ONE), (LIB, ONE)), False), (((APP_ITEM, None), (LIB, None)), False),
                          (((APP_ITEM, ONE), (LIB, None), (FAST, ONE)), True)):
            self.says(met, line_begun, line=line, beginning=told)
            self.says(met, line_met, line=line, lock=tuple([pair for pair in told if pair[1] is not None]))
        self.says(False, line_begun, line=line, beginning=((APP_ITEM, ONE),))
        self.says(True, line_met, line=line, lock=((APP_ITEM, ONE),))
        self.says(True, line_begun, line=(), beginning=())
        self.says(True, line_met, line=(), lock=())
        self.says(False, line_begun, line=((LIB, True, ()),), beginning=())
        self.says(True, line_met, line=((LIB, True, ()),), lock=())
        self.says(False, line_met, line=((LIB, False, ()),), lock=((LIB, ONE),))

    def test_joined(self):
        rng = random.Random(115)
        for _ in range(200):
            near, far, item = made_line(rng), made_line(rng), rng.choice(ITEMS)
            line = lines_joined(item, near, far)
            self.assertIs(is_line(line), True)
            samples = samples_near((near, far))
            self.assertEqual(sets_of_line(line, samples), sets_joined(item, sets_of_line(near, samples),
                                                                      sets_of_line(far, samples), samples))
            for there in locks_near((near, far))[:200]:
                if meets(line, there):
                    self.assertTrue(meets(near, there) or meets(far, there))

    def test_joined_says(self):
        under, from_two = (LIB, True, UNDER_TWO), (LIB, False, FROM_TWO)
        one = (APP_ITEM, False, just_one(ONE))
        self.says((one,), lines_joined, item=LIB, near=(one, under), far=(from_two,))
        self.says((one,), lines_joined, item=LIB, near=(one, under), far=())
        self.says((), lines_joined, item=LIB, near=(from_two,), far=(under,))
        self.says(((LIB, False, ()),), lines_joined, item=APP_ITEM, near=(from_two,), far=(under,))
        self.says((one, from_two), lines_joined, item=FAST, near=(one,), far=(from_two,))
        self.says((from_two,), lines_joined, item=APP_ITEM, near=(one,), far=(from_two,))
        self.says((), lines_joined, item=LIB, near=(), far=())


class Inside(Case):
    def test_beside_all_locks(self):
        rng = random.Random(116)
        seen = []
        for _ in range(400):
            one, other = made_line(rng, 2), made_line(rng, 2)
            if rng.random() < 0.5:
                one = line_of(other + one)
            inside = all(meets(other, there) for there in locks_near((one, other)) if meets(one, there))
            self.assertIs(line_inside(one, other), inside)
            never = any(term[1:] == (False, ()) for term in one)
            by_terms = never or all(term_inside(term_at(one, term[0]), term) for term in other)
            self.assertIs(inside, by_terms)
            if inside:
                with self.assertRaises(NoPaper):
                    parting_lock(one, other)
            else:
                paper = parting_lock(one, other)
                self.assertTrue(meets(one, dict(paper)) and not meets(other, dict(paper)))
                self.assertIs(is_parting_lock(one, other, paper), True)
                self.assertIs(is_parting_lock(as_lists(one), as_lists(other), paper), True)
                self.bars(is_parting_lock, (as_lists(paper), list(paper), paper + (None,)), one=one, other=other)
            seen.append(inside)
        self.assertGreater(min(seen.count(True), seen.count(False)), 100)

    def test_is_parting_lock(self):
        rng = random.Random(117)
        for _ in range(150):
            one, other = made_line(rng, 2), made_line(rng, 2)
            for there in locks_near((one, other))[:50]:
                lock = tuple([(item, there[item]) for item in sorted(there) if there[item] is not None])
                self.assertIs(is_parting_lock(one, other, lock), meets(one, there) and not meets(other, there))
        one, other = ((LIB, True, UNDER_TWO),), ((LIB, False, UNDER_TWO),)
        self.knows(is_parting_lock, (((FAST, ONE),), ((A, ONE),), ()), one=one, other=other)
        self.bars(is_parting_lock, (((LIB, ONE),), ((LIB, TWO),), ((C, ONE), (A, ONE)), ((FAST, None),)), one=one, other=other)

    def test_inside_says(self):
        line = ((APP_ITEM, False, just_one(ONE)), (LIB, True, FROM_TWO))
        self.says(True, line_inside, one=line, other=())
        self.says(True, line_inside, one=line, other=line[:1])
        self.says(False, line_inside, one=line[1:], other=line)
        self.says(True, line_inside, one=((FAST, False, ()),), other=line)
        self.says(False, line_inside, one=(), other=line)
        self.says(True, line_inside, one=(), other=())
        self.refuses(NoPaper(), parting_lock, one=line, other=line)
        self.refuses(NoPaper(), parting_lock, one=((FAST, False, ()),), other=line)
        self.refuses(NoPaper(), parting_lock, one=(), other=())
        for own_one, own_other in ((line[1:], line), ((), line), (line[:1], line), ((), ((LIB, False, ()),))):
            paper = parting_lock(own_one, own_other)
            self.says(paper, parting_lock, one=own_one, other=own_other)
            self.says(True, is_parting_lock, one=own_one, other=own_other, thing=paper)


class Leaves(Case):
    def test_lines_of_leaves(self):
        rng = random.Random(118)
        for registry, wish in small_cases(rng, 25):
            told = plain_leaves(registry, wish) + none_leaves(rng, registry, wish, 10)
            samples = samples_of(registry, wish, told)
            for leaf in told:
                line = leaf_line(registry, wish, leaf)
                self.assertIs(is_line(line), True)
                self.assertEqual(sets_of_line(line, samples), sets_of_leaf(registry, wish, leaf, samples), leaf)

    def test_leaves_in_order(self):
        rng = random.Random(119)
        for registry, wish in small_cases(rng, 60):
            pairs = [own[:2] for own in registry]
            found = plain_leaves(registry, wish)
            keys = {"wish": lambda leaf: (0, leaf[1:]),
                    "need": lambda leaf: (1, pairs.index((leaf[1][0], leaf[2])), leaf[1], leaf[3:]),
                    "part": lambda leaf: (2, pairs.index((leaf[1][0], leaf[2])), leaf[1]),
                    "clash": lambda leaf: (4, pairs.index(leaf[1:3]), leaf[3])}
            rows = sorted([(keys[leaf[0]](leaf), leaf) for leaf in found], key=lambda row: row[0])
            shut = [("none", item, shut_span(registry, wish, item)) for item in plain_order(registry, wish)[1]]
            ahead = [leaf for key, leaf in rows if key[0] < 3]
            self.same(leaves(registry, wish), ahead + shut + [leaf for key, leaf in rows if key[0] == 4])

    def test_met_leaves(self):
        """A LOCK of ITEMS of the ORDER, of whatever VERSIONS, fits exactly if it meets no LEAF's LINE."""
        rng = random.Random(120)
        fitting = 0
        for registry, wish in small_cases(rng, 60):
            told = leaves(registry, wish)
            items = plain_order(registry, wish)[1]
            for k in range(15):
                lock = made_open_lock(rng, registry, wish) if k % 2 else made_lock(rng, registry, wish)
                lock = tuple([pair for pair in lock if pair[0] in items])
                met = [leaf for leaf in told if line_met(leaf_line(registry, wish, leaf), lock)]
                self.same(met_leaves(registry, wish, lock), met)
                self.assertIs(met == [], plainly_fits(registry, wish, lock))
                fitting += met == []
        self.assertGreater(fitting, 20)

    def test_beginnings_and_lines(self):
        rng = random.Random(121)
        for registry, wish in small_cases(rng, 30):
            samples = samples_of(registry, wish)
            for leaf in plain_leaves(registry, wish):
                line, sets = leaf_line(registry, wish, leaf), sets_of_leaf(registry, wish, leaf, samples)
                told = made_beginning(rng, registry, wish, True)
                self.assertIs(line_begun(line, told), all(
                    item in dict(told) and all(test(dict(told)[item]) for own, test in plain_leaf(registry, wish, leaf)
                                               if own == item) for item in sets))

    def test_leaves_say(self):
        every = [("wish", 0, ""), ("wish", 0, "web"), ("need", APP_ITEM, ONE, 0, ""), ("need", APP_ITEM, ONE, 0, "fast"),
                 ("need", WEB, ONE, 0, ""), ("need", NET_ITEM, EARLY, 0, ""), ("part", WEB, ONE), ("part", FAST, ONE),
                 ("none", APP_ITEM, shut_span(YARD, WISH, APP_ITEM)), ("none", WEB, shut_span(YARD, WISH, WEB)),
                 ("none", ("ghost", ""), EVERY), ("none", LIB, shut_span(YARD, WISH, LIB)),
                 ("none", FAST, shut_span(YARD, WISH, FAST)), ("none", NET_ITEM, shut_span(YARD, WISH, NET_ITEM)),
                 ("clash", "lib", TWO, 0)]
        self.says(every, leaves, registry=YARD, wish=WISH)
        self.says([], leaves, registry=(), wish=BARE)
        self.says([("wish", 0, ""), ("wish", 0, "p"), ("none", ("x", ""), EVERY), ("none", ("x", "p"), EVERY)], leaves,
                  registry=(), wish=((("x", (), ("p",), YES),), (), ("z",)))
        self.says([("none", ("y", ""), EVERY)], leaves, registry=(), wish=((("y", EVERY, (), NO),), (), ()))
        self.says([("wish", 0, "")], met_leaves, registry=YARD, wish=((("lib", FROM_TWO, (), YES),), (), ()), lock=((LIB, ONE),))
        self.says([], met_leaves, registry=YARD, wish=BARE, lock=())
        # An ITEM out of the ORDER is none of what these LEAVES speak of.
        self.says([], met_leaves, registry=YARD, wish=BARE, lock=((("zoo", ""), ONE),))
        self.says([("need", NET_ITEM, EARLY, 0, ""), ("clash", "lib", TWO, 0)], met_leaves, registry=YARD,
                  wish=((), (), ("net",)), lock=((LIB, TWO), (NET_ITEM, EARLY)))

    def test_leaf_lines_say(self):
        ring, yard = ((), (), ()), (*YARD, RING)
        own, part = ("ring", ""), ("ring", "p")
        one, but_one = just_one(ONE), ((FIRST, ONE), ((1, 0, 1, -9), None))
        for leaf, line in ((("need", own, ONE, 0, ""), ((own, False, one),)),
                           (("need", own, ONE, 1, ""), ((own, False, ()),)),
                           (("need", own, ONE, 0, "p"), ((own, False, one), (part, True, ()))),
                           (("need", part, ONE, 0, ""), ((own, True, ()), (part, False, one))),
                           (("need", part, ONE, 0, "p"), ((part, False, ()),)),
                           (("part", part, ONE), ((own, True, but_one), (part, False, one))),
                           (("clash", "ring", ONE, 0), ((own, False, one),)),
                           (("clash", "ring", ONE, 1), ((own, False, ()),)),
                           (("none", own, FROM_TWO), ((own, False, FROM_TWO),)), (("none", own, ()), ((own, False, ()),)),
                           (("none", ("zoo", ""), EVERY), ((("zoo", ""), False, EVERY),)),
                           (("clash", "lib", TWO, 0), ((LIB, False, just_one(TWO)), (NET_ITEM, False, EVERY)))):
            self.says(line, leaf_line, registry=yard, wish=ring, leaf=leaf)
        # What a need without a RANGE lacks, it lacks always.
        hopeless = ((("lib", (), ("fast",), YES),), (), ())
        self.says((), leaf_line, registry=YARD, wish=hopeless, leaf=("wish", 0, ""))
        self.says(((FAST, True, ()),), leaf_line, registry=YARD, wish=hopeless, leaf=("wish", 0, "fast"))
        for leaf in (("wish", 1, ""), ("wish", 0, "p"), ("none", LIB, EVERY), ("part", FAST, TWO), ("clash", "lib", ONE, 0),
                     ("need", NET_ITEM, EARLY, 0, "")):
            self.refuses(Unfit(), leaf_line, registry=YARD, wish=hopeless, leaf=leaf)


if __name__ == "__main__":
    unittest.main()
