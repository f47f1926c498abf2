"""More plain models, each of one point: what is kept, asks that clash, ARROWS, ASKS, words of texts; and things drawn."""

import itertools
import re

from models import fitting_locks, plain_leaf, plain_leaves, plain_lean, plainly_judged, rank_key
from support import EVERY, ONE, TWO, YES, mark_holds, open_locks, plain_needs, plain_order, plain_states, plainly_fits, plainly_met
from support import subsets

LOW, HIGH = ((ONE, TWO),), ((TWO, None),)
# The stall of the examples: hub 2 needs pen 2; each pen needs ink of its own age.
STALL = (("hub", ONE, (("pen", EVERY, (), YES),), (), (), False), ("hub", TWO, (("pen", HIGH, (), YES),), (), (), False),
         ("ink", ONE, (), (), (), False), ("ink", TWO, (), (), (), False),
         ("pen", ONE, (("ink", LOW, (), YES),), (), (), False), ("pen", TWO, (("ink", HIGH, (), YES),), (), (), False))
MILD = ((("hub", EVERY, (), YES),), (), ())
OLDER, NEWER = [tuple([((name, ""), own) for name in ("hub", "ink", "pen")]) for own in (ONE, TWO)]
NAME, VERSION = re.compile("[a-z]{1,12}"), re.compile(r"(0|[1-9][0-9]*)(\.(0|[1-9][0-9]*)){2}(-[1-9])?")


def base_of(registry, wish, old):
    needed = plain_lean(registry, wish, old)[0]
    return {item: version for item, version in old if item in needed}


def plain_kept(registry, wish, old, names=()):
    """What tells the STATES of an ITEM from the most kept on; those of these NAMES from the best on."""
    base, there = base_of(registry, wish, old), dict(old)

    def row_of(registry, wish, item):
        own = plain_states(registry, wish, item)
        if there.get(item) not in own[1:] or item[0] in names:
            return own
        mine = there[item]
        first = (mine, None) if item in base else (None, mine)
        return (*first, *[state for state in own[1:] if state != mine])

    return row_of


def plainly_held(registry, wish, old, names=()):
    """Of all LOCKS that fit the one that keeps most; None if nothing fits."""
    key = rank_key(registry, wish, plain_kept(registry, wish, old, names))
    return min(fitting_locks(registry, wish), key=key, default=None)


def beginning_of(registry, wish, kept, base, item):
    items = plain_order(registry, wish)[1]
    told = {own: dict(kept).get(own) for own in items[:items.index(item)]}
    return tuple(sorted({**told, item: base[item]}.items()))


def plain_cut(wish, begun, numbers):
    asks = [("need", need) for need in wish[0]] + [("begun", pair) for pair in begun]
    chosen = [asks[number] for number in numbers]
    needs, pairs = [tuple([own for kind, own in chosen if kind == word]) for word in ("need", "begun")]
    return (needs, wish[1], wish[2]), pairs


class PlainAsks:
    """All LOCKS that fit without the needs of the WISH, each with the asks that it answers."""

    def __init__(self, registry, wish, begun):
        self.given = registry, wish, begun
        self.everything = tuple(range(len(wish[0]) + len(begun)))
        self.rows = []
        bare = ((), wish[1], wish[2])
        for lock in open_locks(registry, wish):
            if plainly_fits(registry, bare, lock):
                met = [plainly_met(lock, need) or not mark_holds(need[3], wish[1]) for need in wish[0]]
                had = [dict(lock).get(item) == state for item, state in begun]
                self.rows.append((lock, {number for number, own in enumerate(met + had) if own}))
        self.clashing = {own for own in subsets(self.everything) if not self.answers(own)}

    def answers(self, numbers):
        return [lock for lock, answered in self.rows if set(numbers) <= answered]

    def left(self, numbers):
        return tuple([own for own in self.everything if own not in numbers])

    def is_core(self, numbers):
        less = [tuple([own for own in numbers if own != number]) for number in numbers]
        return numbers in self.clashing and not any(own in self.clashing for own in less)

    def is_drop(self, numbers):
        more = [self.left([own for own in numbers if own != number]) for number in numbers]
        return self.left(numbers) not in self.clashing and all(own in self.clashing for own in more)

    def core(self):
        kept = list(self.everything)
        for number in reversed(self.everything):
            if tuple([own for own in kept if own != number]) in self.clashing:
                kept.remove(number)
        return tuple(kept)

    def drop(self):
        taken = ()
        for number in self.everything:
            if (*taken, number) not in self.clashing:
                taken = (*taken, number)
        return self.left(taken)

    def is_answer(self, numbers, lock):
        return lock in self.answers(numbers)

    def is_refused(self, numbers, refusal):
        wish, begun = plain_cut(*self.given[1:], numbers)
        return plainly_judged(self.given[0], wish, refusal, begun)

    def is_core_paper(self, paper):
        numbers, refusal, locks = paper
        rests = [tuple([own for own in numbers if own != number]) for number in numbers]
        return (self.is_refused(numbers, refusal) and len(locks) == len(numbers)
                and all(self.is_answer(rest, lock) for rest, lock in zip(rests, locks)))

    def is_drop_paper(self, paper):
        numbers, lock, refusals = paper
        rests = [self.left([own for own in numbers if own != number]) for number in numbers]
        return (self.is_answer(self.left(numbers), lock) and len(refusals) == len(numbers)
                and all(self.is_refused(rest, own) for rest, own in zip(rests, refusals)))


def plainly_changed(near, far):
    return tuple(sorted({item[0] for item, _ in set(near) ^ set(far)}))


def plain_lock(near, far, names):
    return tuple(sorted([pair for pair in far if pair[0][0] in names] + [pair for pair in near if pair[0][0] not in names]))


def plain_arrows(registry, wish, near, far):
    """A dict of the LEAVES, ascending, by the ARROWS that they make."""
    names, found = plainly_changed(near, far), {}
    for leaf in sorted([own for own in plain_leaves(registry, wish) if own[0] in ("need", "clash")]):
        tests = plain_leaf(registry, wish, leaf)
        for x, y in itertools.permutations(names, 2):
            if {item[0] for item, _ in tests} == {x, y}:
                mixed = {**{item: state for item, state in near if item[0] == y},
                         **{item: state for item, state in far if item[0] == x}}
                if all(test(mixed.get(item)) for item, test in tests):
                    found.setdefault((x, y), []).append(leaf)
    return found


def led_to(found, name):
    """All NAMES to which ARROWS lead from name, over others or not."""
    row = {name}
    while True:
        more = row | {y for x, y in found if x in row}
        if more == row:
            return row
        row = more


def woven_case(rng, many):
    """A REGISTRY of two VERSIONS of each NAME, the older ones tied to older, the newer ones to newer ones."""
    names, rows = ("ape", "bee", "cat", "dog", "elk", "fox")[:many], []
    for name in names:
        for version, span in ((ONE, LOW), (TWO, HIGH)):
            others = rng.sample(names, min(many, rng.choice((0, 0, 1, 2))))
            needs = tuple([(other, rng.choice((span, span, EVERY)), rng.choice(((), (), ("p",))),
                            rng.choice((YES, YES, ("on", "w")))) for other in others])
            clashing = [other for other in names if other != name and rng.random() < 0.15]
            clashes = tuple([(other, HIGH if version == ONE else LOW) for other in clashing])
            inner = tuple([(other, span, (), YES) for other in rng.sample(names, rng.choice((0, 0, 1)))])
            rows.append((name, version, needs, (("p", inner),), clashes, False))
    wish = (tuple([(name, EVERY, (), YES) for name in names[:2]]), rng.choice(((), ("w",))), ())
    near, far = [tuple([((name, part), own) for name in names for part in ("", "p")]) for own in (ONE, TWO)]
    drop = rng.sample(names, rng.choice((0, 0, 1)))
    thin = tuple([pair for pair in near if pair[0][0] not in drop])
    return tuple(rows), wish, thin if plainly_fits(tuple(rows), wish, thin) else near, far


def by(wish, words):
    return (wish[0], words, wish[2])


def plain_asks(registry, wish, lock):
    rows, there = set(), dict(lock)
    needs = [((), k, need) for k, need in enumerate(wish[0])]
    for item in there:
        needs.extend([(item, k, need) for k, need in enumerate(plain_needs(registry, item, there[item]))])
        if item[1]:
            rows.add((item, -1, (item[0], "")))
    for asker, k, need in needs:
        if mark_holds(need[3], wish[1]):
            rows.update([(asker, k, (need[0], part)) for part in ("", *need[2])])
    return rows


def item_word(item):
    return "/".join([own for own in item if own])


def version_of(word):
    if not VERSION.fullmatch(word):
        return None
    whole, _, early = word.partition("-")
    return (*map(int, whole.split(".")), -int(early or 0))


def item_of(word):
    parts = word.split("/")
    fine = len(parts) < 3 and all(NAME.fullmatch(part) for part in parts)
    return (parts[0], parts[1] if len(parts) == 2 else "") if fine else None
