"""Plain models of what rests on LOCKS: LEAVES as tests of STATES, LINES as sets of STATES, a judge of REFUSALS,
THE SEARCH by its words, all LOCKS that fit in order; and things drawn for the tests."""

import itertools

from support import EVERY, FEW_VERSIONS, FIRST, NAMES, PARTS, YES, around, made_range, mark_holds, open_locks, plain_items
from support import plain_needs, plain_order, plain_states, plain_targets, plainly_fits, plainly_holds, plainly_open

# ITEMS of which no made-up REGISTRY speaks.
STRANGE = (("zoo", ""), ("zoo", "p"), ("ape", "z"), ("aaa", ""))
ODD_VERSIONS = FEW_VERSIONS + (FIRST, (1, 0, 0, -9), (1, 0, 1, -9), (2, 0, 1, -9), (7, 0, 0, 0), (9, 1, 0, -3))


def just_one(version):
    """The RANGE of this VERSION alone."""
    a, b, c, d = version
    return ((version, (a, b, c, d + 1) if d < 0 else (a, b, c + 1, -9)),)


def made_lock(rng, registry, wish, chance=0.5):
    """A LOCK of whatever ITEMS and VERSIONS."""
    items = [own for own in (*plain_items(registry, wish), *STRANGE) if rng.random() < chance]
    return tuple([(item, rng.choice(ODD_VERSIONS)) for item in sorted(items)])


def made_open_lock(rng, registry, wish):
    """A LOCK of open VERSIONS."""
    rows = [(item, rng.choice(plain_states(registry, wish, item))) for item in plain_items(registry, wish)]
    return tuple([row for row in rows if row[1] is not None])


def made_beginning(rng, registry, wish, odd=False):
    """A BEGINNING of some ITEMS; if odd also of strange ones, and with VERSIONS that are not open."""
    told = {}
    for item in plain_items(registry, wish) + list(STRANGE if odd else ()):
        if rng.random() < 0.3:
            told[item] = rng.choice(plain_states(registry, wish, item))
            if odd and rng.random() < 0.3:
                told[item] = rng.choice((None, *ODD_VERSIONS))
    return tuple(sorted(told.items()))


TAME_VERSIONS = ((1, 0, 0, 0), (2, 0, 0, -1), (2, 0, 0, 0), (3, 0, 0, 0))
TAME_RANGES = (EVERY,) * 5 + ((((2, 0, 0, -9), None),), ((FIRST, (3, 0, 0, -9)),), (((2, 0, 0, 0), (3, 0, 0, -9)),),
                               ((FIRST, (2, 0, 0, -9)), ((3, 0, 0, 0), None)))


def tame_needs(rng, names, most):
    rows = []
    for _ in range(rng.randint(0, most)):
        mark = rng.choice((YES, YES, YES, ("on", "lin"), ("not", ("on", "lin"))))
        rows.append((rng.choice(names), rng.choice(TAME_RANGES), rng.choice(((), (), (), ("p",))), mark))
    return tuple(rows)


def tame_case(rng, names=NAMES, chance=0.6):
    """A REGISTRY and a WISH that more things fit than just anyhow drawn ones."""
    registry = []
    for name, version in itertools.product(names, TAME_VERSIONS):
        if rng.random() < chance:
            parts = (("p", tame_needs(rng, names, 1)),) if rng.random() < 0.5 else ()
            clashes = ((rng.choice(names), rng.choice(TAME_RANGES)),) if rng.random() < 0.2 else ()
            registry.append((name, version, tame_needs(rng, names, 2), parts, clashes, rng.random() < 0.1))
    needs = tame_needs(rng, names, 2) + tuple([(name, EVERY, (), YES) for name in rng.sample(names, rng.randint(1, 2))])
    early = tuple([name for name in names if rng.random() < 0.3])
    return tuple(registry), (needs, ("lin",) if rng.random() < 0.5 else (), early)


def tame_cases(rng, times, most=400):
    """So many of these with at most so many LOCKS of open VERSIONS."""
    while times:
        registry, wish = tame_case(rng, NAMES[:rng.randint(2, 4)])
        many = 1
        for item in plain_items(registry, wish):
            many *= len(plain_states(registry, wish, item))
        if many <= most:
            times -= 1
            yield registry, wish


def plain_lean(registry, wish, lock):
    """The set of the needed ITEMS, round by round, and the number of the rounds."""
    there, found, rounds = dict(lock), plain_targets(wish[0], wish[1]), 0
    while True:
        more = found | {(name, "") for name, _ in found}
        for item in found & set(there):
            if plainly_open(registry, wish[2], item, there[item]):
                more |= plain_targets(plain_needs(registry, item, there[item]), wish[1])
        if more == found:
            return found, rounds
        found, rounds = more, rounds + 1


def rank_key(registry, wish, row_of=plain_states):
    """A key for LOCKS of open VERSIONS: the lesser one has the better STATE where they first differ."""
    rows = [(item, row_of(registry, wish, item)) for item in plain_order(registry, wish)[1]]
    return lambda lock: [row.index(dict(lock).get(item)) for item, row in rows]


def fitting_locks(registry, wish):
    """All LOCKS that fit, the best one first."""
    found = [lock for lock in open_locks(registry, wish) if plainly_fits(registry, wish, lock)]
    return sorted(found, key=rank_key(registry, wish))


def lean_ones(registry, wish):
    """All LOCKS that fit and are lean, the best one first."""
    return [lock for lock in fitting_locks(registry, wish)
            if {item for item, _ in lock} <= plain_lean(registry, wish, lock)[0]]


def lacking(need, part):
    """The pair (ITEM, test of STATES) of a need that lacks this part, "" for the release."""
    if part:
        return (need[0], part), lambda state: state is None
    return (need[0], ""), lambda state: state is None or not plainly_holds(need[1], state)


def is_just(version):
    return lambda state: state == version


def asked(needs, words, k, part):
    return 0 <= k < len(needs) and mark_holds(needs[k][3], words) and part in ("", *needs[k][2])


def plain_leaf(registry, wish, leaf):
    """The list of the pairs (ITEM, test of STATES) of a LEAF, None if it is none; it has the form of one."""
    kind, *rest = leaf
    if kind == "wish":
        k, part = rest
        return [lacking(wish[0][k], part)] if asked(wish[0], wish[1], k, part) else None
    if kind == "none":
        item, span = rest
        held = [own[1] for own in registry if own[0] == item[0] and plainly_open(registry, wish[2], item, own[1])]
        if any(plainly_holds(span, own) for own in held):
            return None
        return [(item, lambda state: state is not None and plainly_holds(span, state))]
    if kind == "clash":
        name, version, k = rest
        clashes = [own[4] for own in registry if own[:2] == (name, version)]
        if not plainly_open(registry, wish[2], (name, ""), version) or k >= len(clashes[0]):
            return None
        other, span = clashes[0][k]
        return [((name, ""), is_just(version)),
                ((other, ""), lambda state: state is not None and plainly_holds(span, state))]
    item, version = rest[:2]
    if not plainly_open(registry, wish[2], item, version):
        return None
    if kind == "part":
        return [(item, is_just(version)), ((item[0], ""), lambda state: state != version)]
    needs = plain_needs(registry, item, version)
    return [(item, is_just(version)), lacking(needs[rest[2]], rest[3])] if asked(needs, wish[1], *rest[2:]) else None


def possible_leaves(registry, wish):
    """All LEAVES but "none", and things of the same forms that are none."""
    found = [("wish", k, part) for k in range(len(wish[0]) + 1) for part in ("", *PARTS, "r")]
    for name, version, *_ in (*registry, ("zoo", (1, 0, 0, 0)), ("ape", (8, 0, 0, 0))):
        found.extend([("clash", name, version, k) for k in range(3)])
        for own in ("", *PARTS, "r"):
            found.extend([("need", (name, own), version, k, part) for k in range(4) for part in ("", *PARTS, "r")])
            if own:
                found.append(("part", (name, own), version))
    return found


def plain_leaves(registry, wish):
    """All LEAVES but "none", in whatever order."""
    return [leaf for leaf in possible_leaves(registry, wish) if plain_leaf(registry, wish, leaf) is not None]


def none_leaves(rng, registry, wish, many):
    """Drawn LEAVES "none"."""
    found, items = [], plain_items(registry, wish) + list(STRANGE)
    for _ in range(many):
        leaf = ("none", rng.choice(items), made_range(rng))
        if plain_leaf(registry, wish, leaf) is not None:
            found.append(leaf)
    return found


def shut_span(registry, wish, item):
    """The RANGE of all VERSIONS not open for item."""
    lows, found = [FIRST], []
    for version in sorted([own for own in plain_states(registry, wish, item) if own is not None]):
        found.append((lows[-1], version))
        lows.append(just_one(version)[0][1])
    return tuple([(low, high) for low, high in [*found, (lows[-1], None)] if low != high])


def samples_of(registry, wish, leaves=(), more=()):
    """A dict of STATES by ITEMS: of each all that some RANGE might part."""
    spans = {item: [EVERY] for item in (*plain_items(registry, wish), *STRANGE)}
    needs = list(wish[0])
    for name, version, own, parts, clashes, _ in registry:
        for part in ("", *dict(parts)):
            spans[(name, part)].append(just_one(version))
        needs.extend([*own, *[need for _, inner in parts for need in inner]])
        for other, span in clashes:
            spans[(other, "")].append(span)
    for need in needs:
        spans[(need[0], "")].append(need[1])
    for leaf in leaves:
        if leaf[0] == "none":
            spans.setdefault(leaf[1], []).append(leaf[2])
    for item, version in more:
        if version is not None:
            spans.setdefault(item, []).append(just_one(version))
    # A part is shut where its release is open without it.
    for name, part in list(spans):
        spans[(name, part)].extend(spans.get((name, ""), []) if part else [])
    return {item: [None, *around(spans[item])] for item in spans}


def sets_of_leaf(registry, wish, leaf, samples):
    """The LINE of a LEAF as a dict of sets of STATES by ITEMS, those alone that are not all."""
    found = {}
    for item, test in plain_leaf(registry, wish, leaf):
        found[item] = {state for state in found.get(item, samples[item]) if test(state)}
    return {item: found[item] for item in found if len(found[item]) < len(samples[item])}


def sets_joined(item, near, far, samples):
    """The LINE of a join, likewise."""
    found = {}
    for own in {*near, *far, item}:
        one, other = [set(line.get(own, samples.get(own, ()))) for line in (near, far)]
        found[own] = one | other if own == item else one & other
    return {own: found[own] for own in found if len(found[own]) < len(samples.get(own, ()))}


def sets_of(registry, wish, refusal, samples):
    """The LINE of a REFUSAL, likewise."""
    if refusal[0] == "leaf":
        return sets_of_leaf(registry, wish, refusal[1], samples)
    _, item, near, far = refusal
    return sets_joined(item, *[sets_of(registry, wish, own, samples) for own in (near, far)], samples)


def sets_of_line(line, samples):
    """The same of a LINE."""
    return {item: {state for state in samples[item] if (absent if state is None else plainly_holds(span, state))}
            for item, absent, span in line}


def leaves_in(refusal):
    """The LEAVES of a REFUSAL, near ahead of far, some more than once."""
    if refusal[0] == "leaf":
        return [refusal[1]]
    return leaves_in(refusal[2]) + leaves_in(refusal[3])


def plainly_judged(registry, wish, refusal, beginning):
    """Whether refusal is one of LEAVES of these whose LINE beginning meets."""
    told = leaves_in(refusal)
    if any(plain_leaf(registry, wish, leaf) is None for leaf in told):
        return False
    line = sets_of(registry, wish, refusal, samples_of(registry, wish, told, beginning))
    begun = dict(beginning)
    return all(item in begun and begun[item] in line[item] for item in line)


def made_refusals(rng, leaves, items, samples, told, steps):
    """REFUSALS of these LEAVES, made step by step: each joins two of those ahead, mostly at an ITEM of both
    LINES; told(leaf) is the LINE of a LEAF as a dict of sets."""
    pool = [(("leaf", leaf), told(leaf)) for leaf in leaves]
    for _ in range(steps):
        near, line = rng.choice(pool)
        item = rng.choice(sorted(line) or items) if rng.random() < 0.8 else rng.choice(items)
        far, other = rng.choice([own for own in pool if item in own[1]] or pool)
        pool.append((("join", item, near, far), sets_joined(item, line, other, samples)))
    return pool


def lock_meeting(rng, line, samples):
    """A LOCK that meets a LINE, given as a dict of sets; None if nothing does."""
    if not all(line.values()):
        return None
    rows = {item: rng.choice(sorted(line[item], key=repr)) for item in line}
    for item in samples:
        if item not in rows and rng.random() < 0.3:
            rows[item] = rng.choice(samples[item])
    return tuple([(item, rows[item]) for item in sorted(rows) if rows[item] is not None])


def plain_search(registry, wish):
    """The list of the BEGINNINGS at which THE SEARCH looks."""
    samples, items, found = samples_of(registry, wish), plain_order(registry, wish)[1], []
    lines = [sets_of_leaf(registry, wish, leaf, samples) for leaf in plain_leaves(registry, wish)]

    def stops_behind(begun):
        found.append(tuple(sorted(begun.items())))
        if any(all(item in begun and begun[item] in line[item] for item in line) for line in lines):
            return False
        rest = [item for item in items if item not in begun]
        if not rest:
            return True
        return any(stops_behind({**begun, rest[0]: state}) for state in plain_states(registry, wish, rest[0]))

    stops_behind({})
    return found


def has_begun(lock, beginning):
    return all(dict(lock).get(item) == state for item, state in beginning)


def plain_turnings(registry, wish, locks):
    """The TURNINGS by their words, in order, each with whether it is ahead of the last of locks."""
    if not locks:
        return [((), False)]
    items, found = plain_order(registry, wish)[1], {}
    rows = {item: plain_states(registry, wish, item) for item in items}
    for k, lock in itertools.product(range(len(items)), locks):
        for state in rows[items[k]]:
            begun = {**{item: dict(lock).get(item) for item in items[:k]}, items[k]: state}
            if not any(has_begun(own, begun.items()) for own in locks):
                key = tuple([rows[item].index(begun[item]) for item in items[:k + 1]])
                found[key] = tuple(sorted(begun.items()))
    last = tuple(rank_key(registry, wish)(locks[-1]))
    return [(found[key], key < last) for key in sorted(found)]


def wide_registry(parts):
    """Four NAMES of four RELEASES each; the first RELEASE alone has the parts that parts tells of its NAME."""
    found = []
    for name in NAMES:
        for number in range(4):
            own = tuple([(part, ()) for part in parts.get(name, ())]) if number == 0 else ()
            needs = (("ape", EVERY, (), YES),) if name != "ape" else ()
            found.append((name, (number + 1, 0, 0, 0), needs, own, (), False))
    return tuple(found)


# As many LOCKS of open VERSIONS as are allowed, 20,000; and just as few more as can be of this kind.
WIDE = wide_registry({"ape": ("p", "q"), "bee": ("p", "q"), "cat": ("p",)})
WIDER = WIDE + (("elk", (1, 0, 0, 0), (), (), (), False),)


def just_over():
    """A REGISTRY of 20,250 LOCKS of open VERSIONS, as near above the bound as REGISTRIES of four RELEASES of a NAME come."""
    found = []
    for name, parts in (("ape", ("p", "q")), ("bee", ("p", "q")), ("cat", ("p",))):
        for number in range(1, 5):
            # Two RELEASES have each part, of the last NAME one alone.
            own = tuple([(part, ()) for part in parts]) if number <= len(parts) else ()
            found.append((name, (number, 0, 0, 0), (), own, (), False))
    return tuple(found)


OVER = just_over()
