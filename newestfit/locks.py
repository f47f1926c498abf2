"""LOCKS: what fits, what is wrong with them, what is needed in them, which one is better."""

from newestfit.errors import Unfit
from newestfit.items import all_come_to, is_item, order, states, targets_of_all
from newestfit.ranges import in_range, just
from newestfit.releases import needs_that_count, open_release, part_needs
from newestfit.marks import holds
from newestfit.shapes import as_set, in_tuples, is_ascending, is_tuple_of
from newestfit.versions import is_version


def is_lock(thing):
    if not isinstance(thing, tuple) or not all(is_tuple_of(pair, 2) for pair in thing):
        return False
    if not all(is_item(item) and is_version(version) for item, version in thing):
        return False
    return is_ascending([pair[0] for pair in thing])


def _versions_there(lock):
    """A dict of the VERSIONS of lock by their ITEMS."""
    return {item: version for item, version in in_tuples(lock)}


def state_of(lock, item):
    return _versions_there(lock).get(in_tuples(item), None)


def with_state(lock, item, state):
    there = _versions_there(lock)
    there[in_tuples(item)] = in_tuples(state)
    return tuple(sorted([(own, version) for own, version in there.items() if version is not None]))


def _lacking(there, need):
    """The list of the parts of the targets of need that are not there as it asks, "" for the first."""
    name, span, parts, _ = need
    version = there.get((name, ""), None)
    found = [] if version is not None and in_range(span, version) else [""]
    return found + [part for part in parts if (name, part) not in there]


def is_met(lock, need):
    return not _lacking(_versions_there(lock), in_tuples(need))


def _lacking_rows(there, needs, words):
    """The list of the pairs (k, part) of what is not there as those NEEDS that count ask."""
    rows = []
    for k, need in enumerate(needs):
        if holds(need[3], words):
            rows.extend([(k, part) for part in _lacking(there, need)])
    return rows


def _clash_faults(there, released):
    """The list of the faults "clash" of these triples (ITEM, VERSION, open RELEASE)."""
    found = []
    for (name, part), version, release in released:
        if part == "":
            for k, (other, span) in enumerate(release[4]):
                if (other, "") in there and in_range(span, there[(other, "")]):
                    found.append(("clash", name, version, k))
    return found


def faults(registry, wish, lock):
    registry, wish, lock = in_tuples(registry), in_tuples(wish), in_tuples(lock)
    there, found, released = _versions_there(lock), [], []
    for item, version in lock:
        release = open_release(registry, wish[2], item, version)
        if release is None:
            found.append(("none", item, just(version)))
        else:
            released.append((item, version, release))
    for item, version, _ in released:
        if there.get((item[0], ""), None) != version:
            found.append(("part", item, version))
    found.extend([("wish", k, part) for k, part in _lacking_rows(there, wish[0], wish[1])])
    for item, version, release in released:
        needs = part_needs(release, item[1])
        found.extend([("need", item, version, k, part) for k, part in _lacking_rows(there, needs, wish[1])])
    return found + _clash_faults(there, released)


def first_fault(registry, wish, lock):
    found = faults(registry, wish, lock)
    return found[0] if found else None


def fits(registry, wish, lock):
    return not faults(registry, wish, lock)


def asked_there(registry, wish, item, version):
    """The list of the ITEMS for which item asks in this VERSION, [] if it is not open; registry and wish are
    made of tuples."""
    release = open_release(registry, wish[2], item, version)
    if release is None:
        return []
    return targets_of_all(needs_that_count(part_needs(release, item[1]), wish[1]))


def needed(registry, wish, lock):
    registry, wish, there = in_tuples(registry), in_tuples(wish), _versions_there(lock)
    wished = targets_of_all(needs_that_count(wish[0], wish[1]))
    # None, the STATE of what is not there, is open for nothing: there it asks for nothing.
    return as_set(all_come_to(wished, lambda item: asked_there(registry, wish, item, there.get(item, None))))


def lean(registry, wish, lock):
    kept = needed(registry, wish, lock)
    return tuple([pair for pair in in_tuples(lock) if pair[0] in kept])


def is_lean(registry, wish, lock):
    return len(lean(registry, wish, lock)) == len(lock)


def are_open(registry, wish, lock):
    """Whether all VERSIONS in lock are open."""
    registry = in_tuples(registry)
    return all(open_release(registry, wish[2], item, version) is not None for item, version in in_tuples(lock))


def first_other(registry, wish, one, other):
    for lock in (one, other):
        if not are_open(registry, wish, lock):
            raise Unfit()
    mine, others = _versions_there(one), _versions_there(other)
    for item in order(registry, wish):
        if mine.get(item, None) != others.get(item, None):
            return item
    return None


def is_better(registry, wish, one, other):
    item = first_other(registry, wish, one, other)
    if item is None:
        return False
    from_best_on = states(registry, wish, item)
    return from_best_on.index(state_of(one, item)) < from_best_on.index(state_of(other, item))


def by_names(lock):
    there, rows = _versions_there(lock), []
    for (name, part), version in there.items():
        if there.get((name, ""), None) != version:
            raise Unfit()
        # ITEMS ascend, so the release stands ahead of its parts.
        if part == "":
            rows.append((name, version, ()))
        else:
            rows[-1] = (name, version, rows[-1][2] + (part,))
    return tuple(rows)


def from_names(rows):
    lock = tuple([((name, part), version) for name, version, parts in in_tuples(rows) for part in ("",) + parts])
    if not is_ascending([pair[0] for pair in lock]):
        raise Unfit()
    return lock
