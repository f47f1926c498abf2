"""[22]: CLAIMS of all eight words, whether they are so beside plain models, both kinds of PAPERS."""

import itertools
import random
import unittest

from newestfit.best import rank_paper
from newestfit.errors import NoNeed, NoPaper, NoWord, TooMany, Unfit
from newestfit.judge import is_claim, is_paper, is_so, not_so, paper, shows, words_so
from newestfit.least import core_paper
from newestfit.marks import is_words
from newestfit.platforms import for_all
from newestfit.updates import held
from models import OVER, WIDER, fitting_locks, has_begun, made_beginning, made_lock, plain_turnings, plainly_judged
from models import rank_key, tame_cases
from plain import PlainAsks, base_of, beginning_of, by, led_to, plain_arrows, plain_lock, plainly_changed, plainly_held
from plain import woven_case
from support import Case, EVERY, NO, ODD_THINGS, ONE, TWO, YES, as_lists, bent, half_lists, has_lists, made_mark
from support import mark_holds, nested, plainly_fits, small_cases, subsets

WORDS = ("alike", "begun", "best", "core", "everywhere", "lost", "single", "solved")
HOME = ("on", "home")
CUP = ("cup", ONE, (), (), (), False)
LEAF_TEA = ("tea", ONE, (("cup", EVERY, (), YES),), (), (), False)
NEW_TEA = ("tea", TWO, (("cup", ((TWO, None),), (), YES),), (), (), False)
SHELF, THIRST = (CUP, LEAF_TEA, NEW_TEA), ((("tea", EVERY, (), YES),), (), ())
STRICT = ((("tea", ((TWO, None),), (), YES),), (), ())
SERVED = ((("cup", ""), ONE), (("tea", ""), ONE))
CUP_ITEM, TEA = ("cup", ""), ("tea", "")
TREE = ("join", TEA, ("join", TEA, ("leaf", ("wish", 0, "")),
                      ("join", CUP_ITEM, ("leaf", ("need", TEA, TWO, 0, "")), ("leaf", ("none", CUP_ITEM, ((TWO, None),))))),
        ("leaf", ("none", TEA, (((2, 0, 1, -9), None),))))


def claims_of(word):
    """One CLAIM of this word that is so, and one that is not."""
    two_cups = (CUP, ("mug", ONE, (), (), (), False), LEAF_TEA, NEW_TEA)
    more = tuple(sorted(SERVED + ((("mug", ""), ONE),)))
    mugs = (("ape", ONE, (("bee", ((ONE, TWO),), (), YES),), (), (), False), ("ape", TWO, (("bee", ((TWO, None),), (), YES),), (), (), False),
            ("bee", ONE, (), (), (), False), ("bee", TWO, (("ape", ((TWO, None),), (), YES),), (), (), False))
    near, far = [tuple([((name, ""), own) for name in ("ape", "bee")]) for own in (ONE, TWO)]
    marked = ((("tea", EVERY, (), HOME), ("tea", ((TWO, None),), (), ("on", "away"))), (), ())
    later = ((TEA, TWO),)
    return {
        "solved": (("solved", SHELF, THIRST), ("solved", SHELF, STRICT)),
        "begun": (("begun", SHELF, THIRST, ((CUP_ITEM, ONE),)), ("begun", SHELF, THIRST, later)),
        "best": (("best", two_cups, THIRST, SERVED), ("best", two_cups, THIRST, more)),
        # tea 2 finds no cup; a cup that is needed stays.
        "lost": (("lost", SHELF, THIRST, later, TEA), ("lost", SHELF, THIRST, SERVED, CUP_ITEM)),
        "core": (("core", SHELF, STRICT, ((CUP_ITEM, None),), (0,)), ("core", SHELF, STRICT, ((CUP_ITEM, None),), (0, 1))),
        "single": (("single", two_cups, THIRST, SERVED, more), ("single", mugs, ((), (), ()), near, far)),
        "everywhere": (("everywhere", SHELF, THIRST, ((), ("home",))), ("everywhere", SHELF, marked, (("away",), ("home",)))),
        "alike": (("alike", HOME, ("all", (HOME, YES))), ("alike", HOME, YES)),
    }[word]


def cases(rng, times):
    for registry, wish in [*small_cases(rng, times // 2, 120), *tame_cases(rng, times, 120)]:
        yield registry, wish, fitting_locks(registry, wish)


class Drawn(Case):
    """Drawn CLAIMS, word by word: whether they are so by all LOCKS, and what their PAPERS show."""

    def look_at(self, claim, so, judged):
        """claim is so or not; judged tells plainly whether a PAPER shows that."""
        self.assertIs(is_claim(claim), True, claim)
        self.assertIs(is_so(claim), so, claim)
        own = paper(claim)
        self.assertTrue(judged(own), (claim, own))
        self.assertIs(shows(claim, own), so)
        self.assertIs(is_paper(claim, own), True)
        self.assertFalse(has_lists(own))
        return own

    def test_solved_and_begun(self):
        rng, seen = random.Random(2201), {}
        for registry, wish, fitting in cases(rng, 50):
            for claim in (("solved", registry, wish), ("begun", registry, wish, made_beginning(rng, registry, wish)),
                          ("begun", registry, wish, made_beginning(rng, registry, wish, True)), ("begun", registry, wish, ())):
                begun = claim[3] if len(claim) > 3 else ()
                having = [lock for lock in fitting if has_begun(lock, begun)]
                self.look_at(claim, bool(having), lambda own: (
                    own in having if having else plainly_judged(registry, wish, own, begun)))
                key = (claim[0], bool(having))
                seen[key] = seen.get(key, 0) + 1
                for lock in (*fitting[:3], made_lock(rng, registry, wish)):
                    self.assertIs(shows(claim, lock), True if lock in having else None)
        self.assertEqual(len(seen), 4)
        self.assertGreater(min(seen.values()), 10, seen)

    def test_best(self):
        rng, seen = random.Random(2202), [0, 0]
        for registry, wish, fitting in cases(rng, 60):
            for lock in (*fitting[:2], *fitting[-1:]):
                key = rank_key(registry, wish)
                better = [own for own in fitting if key(own) < key(lock)]
                ahead = [turning for turning, is_ahead in plain_turnings(registry, wish, (lock,)) if is_ahead]

                def judged(own):
                    if better:
                        return own in better
                    return len(own) == len(ahead) and all(
                        plainly_judged(registry, wish, one, turning) for one, turning in zip(own, ahead))

                claim = ("best", registry, wish, lock)
                self.look_at(claim, not better, judged)
                seen[not better] += 1
                for own in fitting[:4]:
                    # () is a RANK PAPER, too, where nothing is ahead.
                    empty = None if ahead or better or own else True
                    self.assertIs(shows(claim, own), False if own in better else empty)
        self.assertGreater(min(seen), 20, seen)

    def test_lost(self):
        rng, seen = random.Random(2203), [0, 0, 0]
        for registry, wish, fitting in cases(rng, 80):
            for old in (made_lock(rng, registry, wish, 0.8), *fitting[-1:]):
                base, kept = base_of(registry, wish, old), plainly_held(registry, wish, old)
                for item in list(base)[:3]:
                    claim = ("lost", registry, wish, old, item)
                    if kept is None:
                        for function in (is_so, paper):
                            self.refuses(NoPaper(), function, claim=claim)
                        for function in (is_paper, shows):
                            self.refuses(NoPaper(), function, claim=claim, thing=())
                        seen[2] += 1
                        continue
                    so = dict(kept).get(item) != base[item]
                    begun = beginning_of(registry, wish, kept, base, item)
                    self.look_at(claim, so, lambda own: plainly_judged(registry, wish, own, begun) if so else own == kept)
                    seen[so] += 1
                    for own in fitting[:3]:
                        self.assertIs(shows(claim, own), False if own == kept and not so else None)
        self.assertGreater(min(seen), 15, seen)

    def test_core(self):
        rng, seen = random.Random(2204), [0, 0, 0]
        for registry, wish, _ in cases(rng, 40):
            begun = made_beginning(rng, registry, wish, rng.random() < 0.3)[:5 - len(wish[0])]
            plain = PlainAsks(registry, wish, begun)
            for numbers in rng.sample(subsets(plain.everything), min(12, 2 ** len(plain.everything))):
                claim, so = ("core", registry, wish, begun, numbers), plain.is_core(numbers)

                def judged(own):
                    if so:
                        return own[0] == numbers and plain.is_core_paper(own)
                    if own[0] == "answered":
                        return len(own) == 2 and plain.is_answer(numbers, own[1])
                    rest = tuple([number for number in numbers if number != own[1]])
                    return own[0] == "less" and own[1] in numbers and plain.is_refused(rest, own[2])

                own = self.look_at(claim, so, judged)
                seen[2 if so else own[0] == "less"] += 1
                if so:
                    # Of other numbers it shows nothing.
                    for other in subsets(plain.everything):
                        if other != numbers:
                            self.assertIsNone(shows((*claim[:4], other), own))
                    self.bars(is_paper, [("answered", ()), ("less", numbers[0], own[1])], claim=claim)
        self.assertGreater(min(seen), 15, seen)

    def test_single(self):
        rng, seen = random.Random(2205), [0, 0]
        for _ in range(120):
            registry, wish, near, far = woven_case(rng, rng.randint(2, 4))
            claim, found = ("single", registry, wish, near, far), plain_arrows(registry, wish, near, far)
            names = plainly_changed(near, far)
            ringed = [x for x in names if any(x in led_to(found, y) for z, y in found if z == x)]

            def judged(own):
                if ringed:
                    return len(own) > 1 and all(step in found for step in zip(own, own[1:] + own[:1]))
                beginnings = [[name for part in own[:k + 1] for name in part] for k in range(len(own))]
                return (sorted(own) == [(name,) for name in names]
                        and all(plainly_fits(registry, wish, plain_lock(near, far, some)) for some in beginnings))

            self.look_at(claim, not ringed, judged)
            if ringed and len(names) > 1:
                # PLANS of greater sets show nothing.
                self.assertIsNone(shows(claim, (names,)))
            seen[bool(ringed)] += 1
        self.assertGreater(min(seen), 15, seen)

    def test_everywhere_and_alike(self):
        rng, seen = random.Random(2206), {}
        for registry, wish, _ in cases(rng, 50):
            family = tuple(sorted(rng.sample(subsets(("lin", "win")), rng.randint(1, 3))))
            both = [fitting_locks(registry, by(wish, words)) for words in family]
            common = [lock for lock in both[0] if all(lock in own for own in both)]
            claim = ("everywhere", registry, wish, family)
            self.look_at(claim, bool(common), lambda own: own in common if common else plainly_judged(
                *for_all(registry, wish, family), own, ()))
            seen[("everywhere", bool(common))] = seen.get(("everywhere", bool(common)), 0) + 1
            for lock in both[0][:4]:
                self.assertIs(shows(claim, lock), True if lock in common else None)
            one, other = [made_mark(rng, ("a", "b"), 2) for _ in range(2)]
            unlike = [words for words in subsets(("a", "b")) if mark_holds(one, words) != mark_holds(other, words)]
            claim = ("alike", one, other)
            own = self.look_at(claim, not unlike, lambda own: own in unlike if unlike else mark_holds(own, ()) == mark_holds(one, ()))
            self.same(own, paper(claim))
            for words in [*subsets(("a", "b")), ("a", "z")]:
                told = mark_holds(one, words) != mark_holds(other, words)
                self.assertIs(shows(claim, words), False if told else None)
            seen[("alike", not unlike)] = seen.get(("alike", not unlike), 0) + 1
        self.assertEqual(len(seen), 4)
        self.assertGreater(min(seen.values()), 8, seen)


class Papers(Case):
    def test_each_word_both_ways(self):
        for word in WORDS:
            for claim, so in zip(claims_of(word), (True, False)):
                self.says(so, is_so, claim=claim)
                own = paper(claim)
                self.says(so, shows, claim=claim, thing=own)
                self.says(True, is_paper, claim=claim, thing=own)
                self.same(paper(as_lists(claim)), own)
                self.same(paper(claim=half_lists(claim)), own)
                self.says(None, shows, claim=claim, thing=None)
                self.says(False, is_paper, claim=claim, thing=[])

    def test_bent_papers_and_odd_things(self):
        for word in WORDS:
            for claim, so in zip(claims_of(word), (True, False)):
                own = paper(claim)
                for thing in (*bent(own), *ODD_THINGS):
                    # What is bent may still be WORDS on which just one of both MARKS holds.
                    if word == "alike" and not so and is_words(thing) and "home" not in thing:
                        self.assertIs(shows(claim, thing), False)
                    elif repr(thing) != repr(own):
                        self.assertIsNone(shows(claim, thing), (claim, thing))
                        self.assertIs(is_paper(claim, thing), False)

    def test_papers_of_one_claim_at_another(self):
        claims = [claim for word in WORDS for claim in claims_of(word)]
        papers = [paper(claim) for claim in claims]
        shown = set()
        for claim, (k, thing) in itertools.product(claims, enumerate(papers)):
            told = shows(claim, thing)
            # Never both: what is shown is what is so.
            self.assertIn(told, (None, is_so(claim)), (claim, thing))
            shown.update([(claim[0], claims[k][0])] if told is not None else [])
        # The PAPERS of some are such of others, too.
        self.assertTrue({("begun", "solved"), ("solved", "everywhere")} <= shown, shown)
        self.assertFalse({one for one in shown if "single" in one and one[0] != one[1] and "core" in one})

    def test_core_papers_say(self):
        claim = ("core", SHELF, STRICT, (), (0,))
        self.says(True, shows, claim=claim, thing=((0,), TREE, ((),)))
        wider = ("core", SHELF, STRICT, ((CUP_ITEM, None),), (0, 1))
        self.says(False, shows, claim=wider, thing=("less", 1, TREE))
        for thing in (("less", 0, TREE), ("less", 2, TREE), ("less", True, TREE), ["less", 1, TREE], ("less", 1, list(TREE)),
                      ("less", 1), ("less", 1, TREE, ()), ("answered", ()), ("answered", SERVED), ("more", 1, TREE)):
            self.says(None, shows, claim=wider, thing=thing)
        free = ("core", SHELF, THIRST, ((CUP_ITEM, ONE),), (0, 1))
        self.says(False, shows, claim=free, thing=("answered", SERVED))
        for thing in (("answered", ()), ("answered", list(SERVED)), ("answered", SERVED, ()), ("answered",), SERVED,
                      ("less", SERVED), (None, SERVED)):
            self.says(None, shows, claim=free, thing=thing)
        none = ("core", SHELF, THIRST, (), ())
        self.says(False, is_so, claim=none)
        self.same(paper(none), ("answered", ()))
        # A CORE PAPER of other numbers is none of these.
        own = core_paper(SHELF, STRICT, ((TEA, ONE),), (0,))
        self.says(None, shows, claim=("core", SHELF, STRICT, ((TEA, ONE),), (0, 1)), thing=own)

    def test_rank_papers_and_held_locks(self):
        best, more = claims_of("best")
        self.assertEqual(paper(best), rank_paper(*best[1:3], (SERVED,)))
        self.says(None, shows, claim=more, thing=paper(best))
        self.says(False, shows, claim=more, thing=SERVED)
        lost, kept = claims_of("lost")
        self.assertEqual(paper(kept), held(*kept[1:4]))
        # What is held is no PAPER of what is lost.
        self.says(None, shows, claim=lost, thing=held(*lost[1:4]))
        self.says(True, shows, claim=("lost", *lost[1:]), thing=paper(lost))


class Several(Case):
    def test_not_so_and_words_so(self):
        rng = random.Random(2207)
        pool = [(claim, so) for word in WORDS for claim, so in zip(claims_of(word), (True, False))]
        for many in (0, 1, 2, 3, 4, 5, 6) * 6:
            rows = [rng.choice(pool) for _ in range(many)]
            claims = tuple([claim for claim, _ in rows])
            self.same(not_so(claims), tuple([k for k, (_, so) in enumerate(rows) if not so]))
            wrong = {claim[0] for claim, so in rows if not so}
            self.same(words_so(claims), tuple(sorted({claim[0] for claim in claims} - wrong)))
        self.says((), not_so, claims=())
        self.says((), words_so, claims=())
        both = claims_of("solved")
        self.says((1,), not_so, claims=both)
        self.says((), words_so, claims=both)
        self.says(("alike", "solved"), words_so, claims=(both[0], claims_of("alike")[0], both[0]))

    def test_one_is_asked_whole_then_the_next(self):
        fine, big = claims_of("solved")[0], ("solved", WIDER, ((), (), ()))
        unfit = ("best", SHELF, THIRST, ())
        rows = (((), Unfit()), (("proud",), NoWord("proud")), (("solved",), Unfit()), (big, TooMany()), (unfit, Unfit()),
                (("core", SHELF, THIRST, (), (7,)), NoNeed(7)),
                (("lost", SHELF, STRICT, SERVED, TEA), NoPaper()))
        for function in (not_so, words_so):
            for claim, error in rows:
                for other, _ in rows:
                    self.refuses(error, function, claims=(fine, claim, other))
                    self.refuses(error, function, claims=(claim, other, fine))


class Raised(Case):
    def each(self, error, claim, things=((), 5, TREE)):
        for function in (is_so, paper):
            self.refuses(error, function, claim=claim)
        for function in (is_paper, shows):
            for thing in things:
                self.refuses(error, function, claim=claim, thing=thing)

    def test_no_word(self):
        for word in ("proud", "", "Solved", "solved ", None, 5, True, ("solved",), nested(100), ()):
            for rest in ((), (SHELF, THIRST), (5,)):
                self.each(NoWord(word), (word, *rest))
        self.each(Unfit(), ())

    def test_not_as_many_things(self):
        for word in WORDS:
            claim = claims_of(word)[0]
            for k in range(1, len(claim)):
                self.each(Unfit(), claim[:k])
            self.each(Unfit(), (*claim, ()))

    def test_too_many(self):
        bare, lock = ((), (), ()), ((("ape", ""), ONE),)
        for registry in (WIDER, OVER):
            rows = [("solved", registry, bare), ("begun", registry, bare, ()), ("best", registry, bare, ()),
                    ("core", registry, bare, (), ()), ("everywhere", registry, bare, ((),))]
            for claim in rows:
                for function in (is_so, paper):
                    self.refuses(TooMany(), function, claim=claim)
            # It stands ahead of Unfit() and NoNeed(number).
            for claim in (("best", registry, bare, ((("zoo", ""), ONE),)), ("core", registry, bare, (), (3,))):
                for function in (is_so, paper):
                    self.refuses(TooMany(), function, claim=claim)
            # To look at a PAPER is another thing, but for "lost".
            for claim in (rows[0], rows[1], rows[4]):
                self.says(True, shows, claim=claim, thing=())
                self.says(None, shows, claim=claim, thing=5)
            # () is the PAPER that () is best: no TURNING is ahead of it.
            self.says(True, shows, claim=rows[2], thing=())
            self.says(False, shows, claim=rows[3], thing=("answered", ()))
            self.each(TooMany(), ("lost", registry, bare, (), ("ape", "")))
            self.each(TooMany(), ("lost", registry, ((("ape", EVERY, (), YES),), (), ()), lock, ("ape", "")))
            # A plan needs no search.
            self.says(True, is_so, claim=("single", registry, bare, (), lock))
            self.same(paper(("single", registry, bare, (), lock)), (("ape",),))

    def test_unfit_behind_it(self):
        for lock in ((), SERVED[:1], SERVED[1:], ((TEA, TWO),)):
            self.each(Unfit(), ("best", SHELF, THIRST, lock))
            self.each(Unfit(), ("single", SHELF, THIRST, SERVED, lock))
            self.each(Unfit(), ("single", SHELF, THIRST, lock, SERVED))
        # None of the base: not there, or not needed.
        self.each(Unfit(), ("lost", SHELF, THIRST, SERVED, ("zoo", "")))
        self.each(Unfit(), ("lost", SHELF, THIRST, SERVED[:1], CUP_ITEM))
        self.each(Unfit(), ("lost", SHELF, STRICT, SERVED, ("zoo", "")))
        self.each(NoPaper(), ("lost", SHELF, STRICT, SERVED, TEA))

    def test_no_need(self):
        self.each(NoNeed(1), ("core", SHELF, THIRST, (), (0, 1, 5)))
        self.each(NoNeed(4), ("core", SHELF, STRICT, ((TEA, ONE),), (0, 4)), (((0,), TREE, ((),)), ("answered", ()), 5))


class Shapes(Case):
    def test_claims_and_bent_ones(self):
        for word in WORDS:
            for claim in claims_of(word):
                self.assertIs(is_claim(claim), True)
                self.assertIs(is_claim(as_lists(claim)), False)
                self.bars(is_claim, [claim[:k] for k in range(len(claim))])
                self.bars(is_claim, [(*claim, ()), (*claim, None), list(claim)])
                for k, part in enumerate(claim):
                    for thing in itertools.islice(bent(part), 60):
                        told = (*claim[:k], thing, *claim[k + 1:])
                        if word == "alike" and thing in (HOME[1], YES):
                            continue
                        self.assertIs(is_claim(told), False, told)
        self.bars(is_claim, [*ODD_THINGS, ("proud",), ("solved",), (nested(150), SHELF, THIRST)])

    def test_more_than_the_bounds_and_what_does_not_fit(self):
        zoo = ("zoo", "")
        self.assertIs(is_claim(("solved", WIDER + (("zoo", ONE, (), (), (), False),), THIRST)), True)
        for claim in (("best", SHELF, THIRST, ((zoo, ONE),)), ("lost", SHELF, THIRST, (), zoo), ("core", SHELF, THIRST, (), (5, 99)),
                      ("core", SHELF, THIRST, (), ()), ("single", (), THIRST, ((zoo, ONE),), ()), ("begun", (), THIRST, ((zoo, None),)),
                      ("everywhere", SHELF, THIRST, tuple(sorted(subsets("abcde")))), ("alike", NO, ("not", NO))):
            self.assertIs(is_claim(claim), True, claim)
        for claim in (("core", SHELF, THIRST, (), (1, 0)), ("core", SHELF, THIRST, (), (0, 0)), ("core", SHELF, THIRST, (), (-1, 0)),
                      ("core", SHELF, THIRST, (), (False,)), ("everywhere", SHELF, THIRST, ()), ("lost", SHELF, THIRST, (), ("zoo",)),
                      ("begun", SHELF, THIRST, ((TEA, 1),)), ("best", SHELF, THIRST, None), ("solved", SHELF[::-1], THIRST),
                      ("alike", HOME, ("on", "A")), ("everywhere", SHELF, THIRST, (("b", "a"),))):
            self.assertIs(is_claim(claim), False, claim)


if __name__ == "__main__":
    unittest.main()
