"""[12]: REFUSALS, judged by sets of STATES; ROWS there and back."""

import random
import unittest

from newestfit.errors import TooMany, Unfit
from newestfit.lines import is_line, leaf_line, leaves, line_inside, line_met
from newestfit.ranges import is_range
from newestfit.refusals import is_refusal, is_rows, items_joined, joined_all, joins_in, leaf_reached, leaves_used
from newestfit.refusals import lines_by_rows, needs_used, of_rows, refusal_line, refuses, refuses_beginning
from newestfit.refusals import releases_used, rows_of, trimmed
from models import STRANGE, has_begun, leaves_in, lock_meeting, made_beginning, made_lock, made_refusals, none_leaves
from models import plain_leaves, plainly_judged, samples_of, sets_of, sets_of_leaf, sets_of_line, tame_cases
from support import Case, EARLY, EVERY, FIRST, FROM_TWO, ODD_THINGS, ONE, TWO, YARD, YES, as_lists, bent, half_lists
from support import has_lists, open_locks, plain_items, plain_states, plainly_fits, small_cases

APP, LIB, NET = ("app", ""), ("lib", ""), ("net", "")
UNDER_TWO = ((FIRST, TWO),)
# app 1 needs lib below 2, lib 2 alone is there, app is wished for.
SHELF = (("app", ONE, (("lib", UNDER_TWO, (), YES),), (), (), False), ("lib", TWO, (), (), (), False))
WISH = ((("app", EVERY, (), YES),), (), ())
BARE = ((), (), ())
NEED, WISHED = ("leaf", ("need", APP, ONE, 0, "")), ("leaf", ("wish", 0, ""))
NO_APP, NO_LIB = [("leaf", leaf) for leaf in leaves(SHELF, WISH)[2:4]]
APP_OUT = ("join", LIB, NEED, NO_LIB)
REFUSED = ("join", APP, ("join", APP, APP_OUT, WISHED), NO_APP)
JUST_ONE = (APP, False, ((ONE, (1, 0, 1, -9)),))


def drawn(rng, times, most=12):
    """Of so many made-up pairs the rows (registry, wish, refusal, its LINE as a dict of sets, samples)."""
    for k, (registry, wish) in enumerate([*small_cases(rng, times // 2), *tame_cases(rng, times - times // 2)]):
        told = plain_leaves(registry, wish) + none_leaves(rng, registry, wish, 6)
        if not told:
            continue
        samples = samples_of(registry, wish, told)
        items = plain_items(registry, wish) + list(STRANGE[:2])
        pool = made_refusals(rng, told, items, samples, lambda leaf: sets_of_leaf(registry, wish, leaf, samples), 40)
        pool = [row for row in pool if len(parts_of(row[0])) < 120]
        for refusal, line in pool[-1:-most:-1]:
            yield registry, wish, refusal, line, samples


def parts_of(refusal):
    """All REFUSALS in it, itself last."""
    if refusal[0] == "leaf":
        return [refusal]
    return parts_of(refusal[2]) + parts_of(refusal[3]) + [refusal]


def plain_rows(refusal):
    rows = []

    def place_of(own):
        row = own if own[0] == "leaf" else (*own[:2], place_of(own[2]), place_of(own[3]))
        if row not in rows:
            rows.append(row)
        return rows.index(row)

    place_of(refusal)
    return tuple(rows)


def chain(many, item=LIB, near=NEED, far=NO_LIB):
    """So many joins, each within the next one."""
    refusal = near
    for _ in range(many):
        refusal = ("join", item, refusal, far)
    return refusal


def broad(many):
    """A REFUSAL of so many joins, few of which lie within one another."""
    if many == 0:
        return NEED
    return ("join", LIB, broad((many - 1) // 2), broad(many - 1 - (many - 1) // 2))


class Kinds(Case):
    def test_is_refusal(self):
        good = (NEED, WISHED, APP_OUT, REFUSED, ("join", ("zoo", "x"), NEED, NEED), ("leaf", ("none", ("zoo", ""), EVERY)))
        self.knows(is_refusal, good, registry=SHELF, wish=WISH)
        for thing in good:
            self.assertIs(is_refusal(as_lists(SHELF), as_lists(WISH), thing), True)
            self.bars(is_refusal, list(bent(thing)), registry=SHELF, wish=WISH)
        self.bars(is_refusal, (("leaf", ("wish", 1, "")), ("leaf", ("none", LIB, EVERY)), ("leaf",), ("join", LIB, NEED),
                               ("join", ("lib",), NEED, NEED), ("join", "lib", NEED, NEED), ("join", LIB, NEED, ("wish", 0, "")),
                               ("wish", 0, ""), ("leaf", NEED), ("fork", LIB, NEED, NEED), ("join", LIB, NEED, NEED, NEED)),
                  registry=SHELF, wish=WISH)
        # LEAVES of one pair are none of another.
        self.bars(is_refusal, (NEED, WISHED, APP_OUT, REFUSED), registry=SHELF[1:], wish=BARE)
        self.bars(is_refusal, (NO_LIB,), registry=YARD, wish=BARE)

    def test_refuses_is_strict(self):
        self.knows(refuses, (REFUSED,), registry=SHELF, wish=WISH)
        self.bars(refuses, [*bent(REFUSED), NEED, APP_OUT, REFUSED[2], NO_APP], registry=SHELF, wish=WISH)
        told = ((APP, ONE),)
        self.says(True, refuses, registry=SHELF, wish=WISH, thing=REFUSED)
        self.says(True, refuses_beginning, registry=SHELF, wish=WISH, beginning=told, thing=APP_OUT)
        self.says(False, refuses_beginning, registry=SHELF, wish=WISH, beginning=((APP, None),), thing=APP_OUT)
        self.says(True, is_refusal, registry=SHELF, wish=WISH, thing=APP_OUT)
        self.knows(refuses_beginning, (APP_OUT, REFUSED), registry=SHELF, wish=WISH, beginning=told)
        self.bars(refuses_beginning, [*bent(APP_OUT), NEED, NO_LIB, WISHED], registry=SHELF, wish=WISH, beginning=told)
        self.knows(refuses_beginning, (NEED, APP_OUT, REFUSED), registry=SHELF, wish=WISH, beginning=((APP, ONE), (LIB, TWO)))
        self.knows(refuses_beginning, (WISHED,), registry=SHELF, wish=WISH, beginning=((APP, None),))
        self.knows(refuses_beginning, (REFUSED,), registry=as_lists(SHELF), wish=as_lists(WISH), beginning=())
        self.bars(refuses_beginning, (("leaf", ("wish", 1, "")), APP_OUT, None), registry=SHELF, wish=WISH, beginning=())

    def test_is_rows(self):
        leaf = ("leaf", ("need", APP, ONE, 7, "p"))
        good = ((leaf,), (leaf, leaf), (leaf, ("join", APP, 0, 0)), rows_of(REFUSED),
                (leaf, ("leaf", ("wish", 3, "")), ("join", ("zoo", "x"), 1, 0), ("leaf", ("none", LIB, ())),
                 ("leaf", ("clash", "lib", TWO, 9)), ("leaf", ("part", ("lib", "p"), EARLY)), ("join", LIB, 2, 4)))
        self.knows(is_rows, good)
        for rows in good:
            self.bars(is_rows, [own for own in bent(rows) if own not in good])
        self.bars(is_rows, ((), (("join", APP, 0, 0),), (leaf, ("join", APP, 0, 1)), (leaf, ("join", APP, -1, 0)),
                            (leaf, ("join", APP, 0, True)), (leaf, ("join", APP, False, 0)), (leaf, ("join", "app", 0, 0)),
                            leaf, (("leaf", ("wish", -1, "")),), (("leaf", ("part", LIB, ONE)),), (("leaf", ("some", LIB)),),
                            (("leaf", ("none", LIB, ((TWO, ONE),))),), (("leaf", leaf),), (("leaf", ("wish", 0)),),
                            (("leaf", ("need", APP, ONE, 0, None)),), (("leaf", ("clash", LIB, ONE, 0)),)))

    def test_odd_things(self):
        good = [("leaf", ("none", LIB, ()))] + [("join", item, NEED, NEED) for item in (("a", ""), ("a", "b"), ("b", "a"),
                                                                                        ("a", "a"), ("on", "a"), ("on", ""),
                                                                                        ("not", "a"))]
        for thing in ODD_THINGS:
            spoilt = (thing, ("leaf", thing), ("join", LIB, thing, NEED), ("join", thing, NEED, NEED),
                      ("leaf", ("none", LIB, thing)))
            for own in spoilt:
                told = repr(own) in map(repr, good)
                self.assertIs(is_refusal(SHELF, WISH, own), told, own)
                self.assertIs(refuses(SHELF, WISH, own), False)
                self.assertIs(refuses_beginning(SHELF, WISH, ((APP, ONE),), own), False)
                # Of the form of a LEAF, be it one of these or not.
                self.assertIs(is_rows((NEED, own)), own is spoilt[-1] and is_range(thing))


class Judged(Case):
    def test_lines_by_sets(self):
        rng = random.Random(121)
        sizes = []
        for registry, wish, refusal, line, samples in drawn(rng, 50):
            told = refusal_line(registry, wish, refusal)
            self.assertIs(is_line(told), True)
            self.assertEqual(sets_of_line(told, samples), line)
            self.assertEqual(sets_of(registry, wish, refusal, samples), line)
            self.assertIs(is_refusal(registry, wish, refusal), True)
            self.assertIs(refuses(registry, wish, refusal), told == ())
            sizes.append(len(told))
            for odd in (False, True):
                begun = made_beginning(rng, registry, wish, odd)
                self.assertIs(refuses_beginning(registry, wish, begun, refusal),
                              plainly_judged(registry, wish, refusal, begun))
        self.assertTrue({1, 2, 3} <= set(sizes), sizes)

    def test_nothing_that_fits_meets_a_refusal(self):
        rng = random.Random(122)
        seen = 0
        for registry, wish, refusal, line, samples in drawn(rng, 60):
            line = refusal_line(registry, wish, refusal)
            fitting = [lock for lock in open_locks(registry, wish) if plainly_fits(registry, wish, lock)]
            self.assertFalse(any(line_met(line, lock) for lock in fitting))
            self.assertFalse(fitting and line == ())
            for term in line[:1] if len(line) == 1 else ():
                begun = ((term[0], rng.choice(plain_states(registry, wish, term[0]))),)
                if refuses_beginning(registry, wish, begun, refusal):
                    self.assertFalse(any(has_begun(lock, begun) for lock in fitting))
                    seen += 1
        self.assertGreater(seen, 20)

    def test_leaf_reached(self):
        rng = random.Random(123)
        reached = 0
        for registry, wish, refusal, sets, samples in drawn(rng, 40):
            line = refusal_line(registry, wish, refusal)
            for lock in (made_lock(rng, registry, wish), lock_meeting(rng, sets, samples), lock_meeting(rng, sets, samples)):
                if lock is None:
                    continue
                if not line_met(line, lock):
                    with self.assertRaises(Unfit):
                        leaf_reached(registry, wish, refusal, lock)
                    continue
                leaf = leaf_reached(registry, wish, refusal, lock)
                self.assertIn(leaf, leaves_in(refusal))
                self.assertIs(line_met(leaf_line(registry, wish, leaf), lock), True)
                own = refusal
                while own[0] == "join":
                    own = own[2] if line_met(refusal_line(registry, wish, own[2]), lock) else own[3]
                self.same(leaf, own[1])
                reached += own != refusal
        self.assertGreater(reached, 60)

    def test_judged_say(self):
        self.says((JUST_ONE,), refusal_line, registry=SHELF, wish=WISH, refusal=APP_OUT)
        self.says((), refusal_line, registry=SHELF, wish=WISH, refusal=REFUSED)
        self.says((JUST_ONE, (LIB, True, FROM_TWO)), refusal_line, registry=SHELF, wish=WISH, refusal=NEED)
        # An ITEM of which neither speaks: there both hold.
        self.says(((APP, False, ()), (LIB, True, FROM_TWO)), refusal_line, registry=SHELF, wish=WISH,
                  refusal=("join", ("zoo", ""), NEED, WISHED))
        for lock, leaf in (((), WISHED), (((APP, ONE), (LIB, TWO)), NEED), (((APP, ONE), (LIB, ONE)), NO_LIB),
                           (((APP, TWO),), NO_APP), (((LIB, TWO), (("zoo", ""), ONE)), WISHED)):
            self.says(leaf[1], leaf_reached, registry=SHELF, wish=WISH, refusal=REFUSED, lock=lock)
        self.refuses(Unfit(), leaf_reached, registry=SHELF, wish=WISH, refusal=APP_OUT, lock=())
        self.refuses(Unfit(), leaf_reached, registry=SHELF, wish=BARE, refusal=REFUSED, lock=())

    def test_leaves_of_others_are_unfit(self):
        for refusal in (REFUSED, WISHED, ("join", APP, APP_OUT, WISHED), ("leaf", ("wish", 4, ""))):
            self.refuses(Unfit(), refusal_line, registry=SHELF, wish=BARE, refusal=refusal)
            self.refuses(Unfit(), trimmed, registry=SHELF, wish=BARE, refusal=refusal)
            self.refuses(Unfit(), leaf_reached, registry=SHELF, wish=BARE, refusal=refusal, lock=((APP, ONE),))
            self.refuses(Unfit(), lines_by_rows, registry=SHELF, wish=BARE, rows=rows_of(refusal))
        # Also a row on which the last one does not rest.
        self.refuses(Unfit(), lines_by_rows, registry=SHELF, wish=BARE, rows=(WISHED, NO_LIB))


class Looks(Case):
    def test_by_recursion(self):
        rng = random.Random(124)
        for registry, wish, refusal, _, _ in drawn(rng, 50):
            told = leaves_in(refusal)
            self.same(leaves_used(refusal), tuple(dict.fromkeys(told)))
            self.same(needs_used(refusal), tuple(sorted({leaf[1] for leaf in told if leaf[0] == "wish"})))
            pairs = {(leaf[1][0], leaf[2]) for leaf in told if leaf[0] in ("need", "part")}
            pairs |= {leaf[1:3] for leaf in told if leaf[0] == "clash"}
            self.same(releases_used(refusal), tuple(sorted(pairs)))
            joins = [own for own in parts_of(refusal) if own[0] == "join"]
            self.same(joins_in(refusal), len(joins))
            self.same(items_joined(refusal), tuple(sorted({own[1] for own in joins})))
            rows = rows_of(refusal)
            self.same(rows, plain_rows(refusal))
            self.assertIs(is_rows(rows), True)
            self.same(of_rows(rows), refusal)
            lines = [refusal_line(registry, wish, own) for own in dict.fromkeys(parts_of(refusal))]
            self.same(lines_by_rows(registry, wish, rows), lines)

    def test_looks_say(self):
        self.says((NEED[1], NO_LIB[1], WISHED[1], NO_APP[1]), leaves_used, refusal=REFUSED)
        self.says((NO_LIB[1], NEED[1]), leaves_used, refusal=("join", LIB, NO_LIB, ("join", LIB, NEED, NO_LIB)))
        self.says((0,), needs_used, refusal=REFUSED)
        self.says((), needs_used, refusal=APP_OUT)
        self.says((("app", ONE),), releases_used, refusal=REFUSED)
        mixed = ("join", LIB, ("leaf", ("clash", "lib", TWO, 0)), ("join", NET, ("leaf", ("part", ("ape", "p"), ONE)), NEED))
        self.says((("ape", ONE), ("app", ONE), ("lib", TWO)), releases_used, refusal=mixed)
        self.says((), releases_used, refusal=WISHED)
        self.says(3, joins_in, refusal=REFUSED)
        self.says(0, joins_in, refusal=WISHED)
        self.says(7, joins_in, refusal=("join", LIB, REFUSED, REFUSED))
        self.says((APP, LIB), items_joined, refusal=REFUSED)
        self.says((), items_joined, refusal=NO_APP)

    def test_joined_all_says(self):
        self.says(REFUSED, joined_all, item=APP, refusals=(APP_OUT, WISHED, NO_APP))
        self.says(APP_OUT, joined_all, item=("zoo", "x"), refusals=(APP_OUT,))
        self.says(("join", LIB, WISHED, WISHED), joined_all, item=LIB, refusals=(WISHED, WISHED))
        self.refuses(Unfit(), joined_all, item=LIB, refusals=())

    def test_rows_say(self):
        rows = (NEED, NO_LIB, ("join", LIB, 0, 1), WISHED, ("join", APP, 2, 3), NO_APP, ("join", APP, 4, 5))
        self.says(rows, rows_of, refusal=REFUSED)
        self.says((WISHED,), rows_of, refusal=WISHED)
        self.says((NEED, ("join", LIB, 0, 0), ("join", LIB, 1, 0), ("join", LIB, 2, 1)), rows_of,
                  refusal=("join", LIB, ("join", LIB, ("join", LIB, NEED, NEED), NEED), ("join", LIB, NEED, NEED)))
        self.says(REFUSED, of_rows, rows=rows)
        self.says(WISHED, of_rows, rows=(*rows, WISHED))
        self.says(("join", LIB, NEED, NEED), of_rows, rows=(NEED, NEED, ("join", LIB, 1, 0)))
        under = (LIB, True, FROM_TWO)
        self.says([(JUST_ONE, under), leaf_line(SHELF, WISH, NO_LIB[1]), (JUST_ONE,), ((APP, True, ()),), ((APP, True, JUST_ONE[2]),),
                   leaf_line(SHELF, WISH, NO_APP[1]), ()], lines_by_rows, registry=SHELF, wish=WISH, rows=rows)


class Trimmed(Case):
    def plainly(self, registry, wish, refusal):
        if refusal[0] == "leaf":
            return refusal
        _, item, near, far = refusal
        sides = [self.plainly(registry, wish, own) for own in (near, far)]
        for own in sides:
            if item not in [term[0] for term in refusal_line(registry, wish, own)]:
                return own
        return ("join", item, *sides)

    def test_by_recursion(self):
        rng = random.Random(125)
        shorter = 0
        for registry, wish, refusal, _, _ in drawn(rng, 50):
            told = trimmed(registry, wish, refusal)
            self.same(told, self.plainly(registry, wish, refusal))
            self.same(trimmed(registry, wish, told), told)
            self.assertLessEqual(joins_in(told), joins_in(refusal))
            self.assertLessEqual(set(leaves_used(told)), set(leaves_used(refusal)))
            self.assertIs(line_inside(refusal_line(registry, wish, refusal), refusal_line(registry, wish, told)), True)
            shorter += joins_in(told) < joins_in(refusal)
        self.assertGreater(shorter, 50)

    def test_trimmed_says(self):
        self.says(REFUSED, trimmed, registry=SHELF, wish=WISH, refusal=REFUSED)
        self.says(WISHED, trimmed, registry=SHELF, wish=WISH, refusal=WISHED)
        self.says(REFUSED, trimmed, registry=SHELF, wish=WISH, refusal=("join", LIB, REFUSED, NEED))
        self.says(NO_APP, trimmed, registry=SHELF, wish=WISH, refusal=("join", LIB, NEED, NO_APP))
        self.says(NEED, trimmed, registry=SHELF, wish=WISH, refusal=("join", ("zoo", ""), NEED, NO_APP))


class Long(Case):
    def test_many_joins(self):
        for refusal, many in ((chain(200), 200), (broad(1000), 1000)):
            self.assertEqual(joins_in(refusal), many)
            self.same(of_rows(rows_of(refusal)), refusal)
            self.assertIs(is_refusal(SHELF, WISH, refusal), True)
            self.assertIs(refuses(SHELF, WISH, refusal), False)
            self.assertIs(refuses_beginning(SHELF, WISH, ((APP, ONE), (LIB, None)), refusal), True)
            for turned in (as_lists(refusal), half_lists(refusal)):
                self.same(refusal_line(SHELF, WISH, turned), refusal_line(SHELF, WISH, refusal))
                self.same(leaves_used(turned), leaves_used(refusal))
                self.same(trimmed(SHELF, WISH, turned), trimmed(SHELF, WISH, refusal))
                self.assertIs(has_lists(rows_of(turned)), False)
                self.same(joined_all(APP, [turned, WISHED]), ("join", APP, refusal, WISHED))

    def test_too_many_joins(self):
        chained, wide = rows_of(chain(200)), rows_of(broad(1000))
        for rows, item in ((chained, APP), (wide, APP)):
            self.refuses(TooMany(), of_rows, rows=rows + (("join", item, len(rows) - 1, 0),))
            self.refuses(TooMany(), of_rows, rows=rows + (("join", item, 0, len(rows) - 1),))
            # The last row alone tells the REFUSAL.
            self.same(of_rows(rows + (("join", item, len(rows) - 1, 0), NEED)), NEED)
        self.assertEqual(joins_in(of_rows(rows_of(chain(200)))), 200)

    def test_lines_of_however_many_joins(self):
        rows = [NEED, NO_LIB]
        for k in range(60):
            rows.append(("join", LIB if k % 2 else APP, len(rows) - 1, len(rows) - 2))
        told = lines_by_rows(SHELF, WISH, tuple(rows))
        self.assertEqual(len(told), 62)
        self.refuses(TooMany(), of_rows, rows=tuple(rows))
        short = of_rows(tuple(rows[:14]))
        self.same(told[13], refusal_line(SHELF, WISH, short))

    def test_sixty_refusals(self):
        told = joined_all(LIB, tuple([chain(20)] * 60))
        self.assertEqual(joins_in(told), 60 * 20 + 59)
        self.assertEqual(len(rows_of(told)), 22 + 59)


if __name__ == "__main__":
    unittest.main()
