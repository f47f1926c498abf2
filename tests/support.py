"""What several tests use: odd things, lists for tuples, plain models, made-up registries."""

import copy
import itertools
import time
import unittest

# How long one call may take, in seconds.
LIMIT = 20
FIRST = (0, 0, 0, -9)
EVERY = ((FIRST, None),)
YES, NO = ("all", ()), ("any", ())


def nested(depth, core=()):
    """A tuple in a tuple in a tuple, so deep."""
    for _ in range(depth):
        core = (core,)
    return core


ODD_THINGS = (
    None, True, False, 0, 1, -1, 7, 10 ** 40, "", " ", "a", "core", "Core", "a b", "a1", "none", "*",
    "1.2.3", "abcdefghijklm", "\u00e9", "\u0663", "\n", "a\n", (), [], ((),), [[]], [()], ([],), (None,),
    (True,), ("a",), ["a"], ("a", ""), ["a", ""], ("a", "b"), ("b", "a"), ("a", "a"), ("", "a"), ("a", None),
    ("a", "b", "c"), (1, 2, 3, 0), [1, 2, 3, 0], (1, 2, 3), (1, 2, 3, 1), (1, 2, 3, -10), (1, 2, -1, 0),
    (True, 2, 3, 0), (1, 2, 3, False), (1, 2, "3", 0), (1, 2, 3, None), (1, 2, 3, 0, 0), ((1, 2, 3, 0),),
    ("all", ()), ["all", ()], ("all", []), ("any", ()), ("all",), ("all", (), ()), ("on", "a"), ["on", "a"],
    ("on", ""), ("on", "A"), ("on", ("a",)), ("not", ()), ("not", "a"), ("not", ("on", "a")), ("some", ()),
    ("all", ("on", "a")), ("all", (("on", "a"), ["on", "b"])), ("any", (("on", "a"), "b")), (True, ()),
    nested(200), nested(150, 5), [nested(198)], (FIRST, None), ((FIRST, None),), ([FIRST, None],),
    ((list(FIRST), None),), (((0, 0, 0, -9), (0, 0, 0, -9)),), (((1, 0, 0, 0), (0, 0, 0, 0)),),
    (((1, 0, 0, 0), None), ((2, 0, 0, 0), None)), ((), (), ()), [(), (), ()], ((), (), [],), (0, 0, 0, 0),
)


def as_lists(value):
    """The same value with lists for all tuples."""
    if isinstance(value, (list, tuple)):
        return [as_lists(part) for part in value]
    return value


def half_lists(value, at=0):
    """The same value with lists for every second layer of tuples."""
    if isinstance(value, (list, tuple)):
        parts = [half_lists(part, at + 1) for part in value]
        return parts if at % 2 else tuple(parts)
    return value


def has_lists(value):
    """Whether a list lies in value, or value is one."""
    if isinstance(value, (list, tuple)):
        return isinstance(value, list) or any(has_lists(part) for part in value)
    return False


def subsets(rows):
    """All sets of rows, fewest members first, those of one length ascending."""
    rows = sorted(set(rows))
    return [own for many in range(len(rows) + 1) for own in itertools.combinations(rows, many)]


def plain_text(version):
    return ".".join(map(str, version[:3])) + (f"-{-version[3]}" if version[3] else "")


def plainly_holds(span, version):
    """Whether a pair of span, in whatever order, holds version."""
    return any(low <= version and (high is None or version < high) for low, high in span)


def later_version(version):
    """The one next to version."""
    return (*version[:3], version[3] + 1) if version[3] < 0 else (*version[:2], version[2] + 1, -9)


def plain_cuts(spans):
    return sorted({FIRST} | {end for span in spans for pair in span for end in pair if end is not None})


def around(spans, more=()):
    """All cuts, the VERSIONS just ahead of and behind them, and some far from them, ascending."""
    found = set(more)
    for cut in plain_cuts(spans):
        found.update([cut, later_version(cut), later_version(later_version(cut)), (*cut[:2], cut[2] + 7, -3),
                      (cut[0], cut[1] + 5, 0, 0), (*cut[:3], 0)])
        if cut[2:] != (0, -9):
            found.add((*cut[:3], cut[3] - 1) if cut[3] > -9 else (*cut[:2], cut[2] - 1, 0))
    found.add((10 ** 30, 0, 0, 0))
    return sorted(found)


def mark_holds(mark, words):
    word, inner = mark
    if word == "on":
        return inner in words
    if word == "not":
        return not mark_holds(inner, words)
    return {"all": all, "any": any}[word]([mark_holds(own, words) for own in inner])


def made_version(rng, top=2):
    fourth = rng.choice((0, 0, 0, -1, -9, -9, -4, -8))
    return (rng.randint(0, top), rng.randint(0, top), rng.randint(0, top), fourth)


def made_range(rng, pairs=3, top=2):
    """A RANGE made of ends: each low is above the high ahead."""
    many = rng.randint(0, pairs)
    ends = set()
    while len(ends) < 2 * many:
        ends.add(made_version(rng, top))
    ends = sorted(ends)
    rows = [(ends[k], ends[k + 1]) for k in range(0, len(ends), 2)]
    if rows and rng.random() < 0.4:
        rows[-1] = (rows[-1][0], None)
    return tuple(rows)


def made_mark(rng, names, depth=3):
    kind = rng.choice(("on", "on", "not", "all", "any"))
    if depth == 1 or kind == "on":
        return rng.choice([("on", name) for name in names] * 3 + [YES, NO])
    if kind == "not":
        return ("not", made_mark(rng, names, depth - 1))
    return (kind, tuple([made_mark(rng, names, depth - 1) for _ in range(rng.randint(0, 3))]))


# The registry of the examples.
ONE, TWO, EARLY = (1, 0, 0, 0), (2, 0, 0, 0), (1, 0, 0, -1)
FROM_TWO = ((TWO, None),)
APP = ("app", ONE, (("lib", EVERY, ("fast",), YES),), (("web", (("net", EVERY, (), ("on", "unix")),)),), (), False)
OLD, NEW = ("lib", ONE, (), (("fast", ()),), (), False), ("lib", TWO, (), (), (("net", EVERY),), False)
NET = ("net", EARLY, (("ghost", EVERY, (), YES),), (), (), False)
YARD = (APP, OLD, NEW, NET)

NAMES = ("ape", "bee", "cat", "dog")
PARTS = ("p", "q")
WORDS = ("lin", "win")
FEW_VERSIONS = ((0, 1, 0, 0), (1, 0, 0, -2), (1, 0, 0, 0), (2, 0, 0, 0))
FEW_RANGES = (EVERY, EVERY, (((1, 0, 0, 0), None),), ((FIRST, (1, 0, 0, -9)),), (((1, 0, 0, 0), (1, 0, 1, -9)),),
              (((0, 1, 0, 0), (1, 0, 0, 0)), ((2, 0, 0, 0), None)), (), (((9, 0, 0, 0), None),))


def made_need(rng, names=NAMES):
    mark = rng.choice((YES, YES, ("on", "lin"), ("not", ("on", "lin")), ("any", (("on", "lin"), ("on", "win"))), NO))
    parts = tuple(sorted(rng.sample(PARTS, rng.choice((0, 0, 0, 1, 2)))))
    return (rng.choice(names), rng.choice(FEW_RANGES), parts, mark)


def made_needs(rng, most, names=NAMES):
    return tuple([made_need(rng, names) for _ in range(rng.randint(0, most))])


def made_release(rng, name, version, names=NAMES):
    asked = names + (name, name)
    parts = tuple([(part, made_needs(rng, 2, asked)) for part in PARTS if rng.random() < 0.4])
    clashes = tuple([(rng.choice(names), rng.choice(FEW_RANGES)) for _ in range(rng.choice((0, 0, 0, 1, 2)))])
    return (name, version, made_needs(rng, 2, asked), parts, clashes, rng.random() < 0.15)


def made_registry(rng, names=NAMES[:3], chance=0.4):
    pairs = [(name, version) for name in names for version in FEW_VERSIONS if rng.random() < chance]
    return tuple([made_release(rng, name, version) for name, version in pairs])


def made_wish(rng):
    words = tuple([word for word in WORDS if rng.random() < 0.5])
    early = tuple([name for name in NAMES if rng.random() < 0.3])
    return (made_needs(rng, 3), words, early)


def plainly_open(registry, early, item, version):
    for name, own, _, parts, _, pulled in registry:
        if (name, own) == (item[0], version):
            return (not pulled and (own[3] == 0 or name in early)
                    and (item[1] == "" or item[1] in [part for part, _ in parts]))
    return False


def plain_needs(registry, item, version):
    """The NEEDS of item at version, () if it has none."""
    for name, own, needs, parts, _, _ in registry:
        if (name, own) == (item[0], version):
            return needs if item[1] == "" else dict(parts).get(item[1], ())
    return ()


def plainly_met(lock, need):
    there = dict(lock)
    version = there.get((need[0], ""))
    if version is None or not plainly_holds(need[1], version):
        return False
    return all((need[0], part) in there for part in need[2])


def plainly_fits(registry, wish, lock):
    """Whether lock fits, row by row of the table."""
    there = dict(lock)
    asked = list(wish[0])
    for item, version in lock:
        if not plainly_open(registry, wish[2], item, version):
            return False
        if item[1] != "" and there.get((item[0], "")) != version:
            return False
        asked.extend(plain_needs(registry, item, version))
    if not all(plainly_met(lock, need) for need in asked if mark_holds(need[3], wish[1])):
        return False
    for name, version, _, _, clashes, _ in registry:
        if there.get((name, "")) == version:
            for other, span in clashes:
                if (other, "") in there and plainly_holds(span, there[(other, "")]):
                    return False
    return True


def plain_items(registry, wish):
    """All ITEMS of which both speak, ascending."""
    items = set()
    needs = list(wish[0])
    for name, _, own, parts, clashes, _ in registry:
        items.add((name, ""))
        needs.extend(own)
        for part, inner in parts:
            items.add((name, part))
            needs.extend(inner)
        items.update([(clash[0], "") for clash in clashes])
    for need in needs:
        items.add((need[0], ""))
        items.update([(need[0], part) for part in need[2]])
    return sorted(items)


def open_locks(registry, wish):
    """All LOCKS whose VERSIONS are all open."""
    rows = []
    for item in plain_items(registry, wish):
        own = [release[1] for release in registry
               if release[0] == item[0] and plainly_open(registry, wish[2], item, release[1])]
        rows.append([(item, state) for state in [None] + own])
    return [tuple([pair for pair in row if pair[1] is not None]) for row in itertools.product(*rows)]


def plain_targets(needs, words, name=None):
    """The ITEMS for which those of needs ask that count, only those of this name if one is given."""
    return {(need[0], part) for need in needs if mark_holds(need[3], words) and name in (None, need[0])
            for part in ("", *need[2])}


def plain_states(registry, wish, item):
    row = [own[1] for own in registry if own[0] == item[0] and plainly_open(registry, wish[2], item, own[1])]
    return (None, *sorted(row, reverse=True))


def plain_order(registry, wish):
    items = plain_items(registry, wish)
    first = []
    for need in wish[0]:
        if mark_holds(need[3], wish[1]) and need[0] not in first:
            first.append(need[0])
    names = first + sorted({name for name, _ in items} - set(first))
    return tuple(names), tuple([item for name in names for item in items if item[0] == name])


def plainly_better(registry, wish, one, other):
    """Whether one is better, along the ORDER; both have open VERSIONS."""
    one, other = dict(one), dict(other)
    for item in plain_order(registry, wish)[1]:
        if one.get(item) != other.get(item):
            row = plain_states(registry, wish, item)
            return row.index(one.get(item)) < row.index(other.get(item))
    return False


class Case(unittest.TestCase):
    """A test case that also looks at what each call does to its arguments, or at how long it takes."""

    def timed(self, function, *given):
        begun = time.monotonic()
        told = function(*given)
        self.assertLess(time.monotonic() - begun, LIMIT, function.__name__)
        return told

    def says(self, expected, function, **given):
        """function tells expected: by position, by name, with lists for tuples, twice over."""
        for turned in (lambda value: value, as_lists, half_lists):
            own = {name: value if name == "thing" else turned(value) for name, value in given.items()}
            kept = copy.deepcopy(own)
            by_name, by_place = function(**own), function(*own.values())
            self.assertEqual(repr(own), repr(kept), function.__name__)
            self.same(by_name, expected, (function.__name__, own))
            self.same(by_place, expected, (function.__name__, own))
            if isinstance(by_name, list):
                self.assertIsNot(by_name, by_place)
                by_place.append("changed")
                self.same(function(**own), expected, function.__name__)

    def same(self, told, expected, why=None):
        """told is expected, also in its kinds: no list for a tuple, no True for a 1."""
        self.assertEqual(repr(told), repr(expected), why)

    def refuses(self, error, function, **given):
        """function raises error, of this very class and with its attributes, however it is called."""
        for turned in (lambda value: value, as_lists, half_lists):
            own = {name: value if name == "thing" else turned(value) for name, value in given.items()}
            kept = copy.deepcopy(own)
            for call in (lambda: function(**own), lambda: function(*own.values())):
                with self.assertRaises(type(error)) as caught:
                    call()
                self.assertIs(type(caught.exception), type(error))
                self.same(vars(caught.exception), vars(error), (function.__name__, own))
            self.assertEqual(repr(own), repr(kept), function.__name__)

    def knows(self, function, things, **given):
        """function says True for each of things, False for lists in them and for all odd ones else."""
        for thing in things:
            self.assertIs(function(**given, thing=thing), True, (function.__name__, thing))
            if isinstance(thing, tuple):
                self.assertIs(function(**given, thing=as_lists(thing)), False, (function.__name__, thing))
                self.assertIs(function(**given, thing=list(thing)), False, (function.__name__, thing))
        for thing in ODD_THINGS:
            found = function(**given, thing=thing)
            expected = any(type(thing) is type(own) and repr(thing) == repr(own) for own in things)
            self.assertIs(found, expected, (function.__name__, thing))

    def bars(self, function, things, **given):
        """function says False for each of things."""
        for thing in things:
            self.assertIs(function(**given, thing=thing), False, (function.__name__, thing))


def bent(thing):
    """Things like thing, but in one place with a list for a tuple, or with what can't stand there."""
    if isinstance(thing, tuple):
        yield list(thing)
        yield thing + (None,)
        for k, part in enumerate(thing):
            for own in bent(part):
                yield thing[:k] + (own,) + thing[k + 1:]
    elif isinstance(thing, bool):
        yield from (int(thing), None, "")
    elif isinstance(thing, int):
        yield from (True, False, None, str(thing))
    elif isinstance(thing, str):
        yield from (f"{thing} ", thing.upper() + "Z", 1, None, (thing,))


def small_cases(rng, times, most=400):
    """Made-up pairs (registry, wish) with at most so many LOCKS of open VERSIONS."""
    while times:
        registry, wish = made_registry(rng), made_wish(rng)
        many = 1
        for item in plain_items(registry, wish):
            many *= 1 + sum(plainly_open(registry, wish[2], item, own[1]) for own in registry if own[0] == item[0])
        if many <= most:
            times -= 1
            yield registry, wish
