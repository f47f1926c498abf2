"""Reasons: who asks for an ITEM, over which WAYS; what becomes of a LOCK if a RELEASE is pulled."""

from newestfit.boards import check_lots
from newestfit.errors import NoName, NoPaper, Unfit
from newestfit.graphs import least_ways
from newestfit.items import targets
from newestfit.locks import fits, state_of
from newestfit.marks import holds
from newestfit.registry import pull, release_at
from newestfit.releases import part_needs, release_of
from newestfit.shapes import as_set, in_tuples, is_ascending, is_number, is_tuple_of
from newestfit.solve import searched
from newestfit.updates import unlike_states

# The asker of the WISH.
WISHED = ()
# The number in the ASK of a part for its release.
OF_PART = -1


def _asks_by(asker, needs, words):
    """The list of the ASKS that these NEEDS of asker make."""
    counted = [(k, need) for k, need in enumerate(needs) if holds(need[3], words)]
    return [(asker, k, item) for k, need in counted for item in targets(need)]


def asks(registry, wish, lock):
    if not fits(registry, wish, lock):
        raise Unfit()
    registry = in_tuples(registry)
    found = _asks_by(WISHED, wish[0], wish[1])
    for item, version in in_tuples(lock):
        # What fits is open: so the RELEASE is there.
        release = release_of(registry, item[0], version)
        found.extend(_asks_by(item, part_needs(release, item[1]), wish[1]))
        if item[1] != "":
            found.append((item, OF_PART, (item[0], "")))
    return as_set(found)


def _asks_around(registry, wish, lock, item):
    """The pair (asks, item): the set of all ASKS, item made of tuples. Unfit(), then NoName(name)."""
    found = asks(registry, wish, lock)
    if state_of(lock, item) is None:
        raise NoName(item[0])
    return found, in_tuples(item)


def who_asks(registry, wish, lock, item):
    found, item = _asks_around(registry, wish, lock, item)
    return as_set([own[:2] for own in found if own[2] == item])


def way_to(registry, wish, lock, item):
    found, item = _asks_around(registry, wish, lock, item)
    ways = least_ways(WISHED, found)
    if item not in ways:
        raise NoPaper()
    return ways[item]


def _is_ask(found, thing):
    """Whether thing is one of the ASKS in found."""
    # 1 and True compare as equal, so the number is looked at, too.
    return is_tuple_of(thing, 3) and is_number(thing[1]) and thing in found


def _is_way(found, item, thing):
    if not isinstance(thing, tuple) or not all(_is_ask(found, own) for own in thing):
        return False
    come_to = [own[2] for own in thing]
    askers = [own[0] for own in thing]
    return askers == [WISHED] + come_to[:-1] and come_to[-1] == item and len(as_set(come_to)) == len(come_to)


def is_way(registry, wish, lock, item, thing):
    found, item = _asks_around(registry, wish, lock, item)
    return _is_way(found, item, thing)


def _come_to_freely(found, used):
    """A dict of the WAYS to what is come to over ASKS that are not used, or back over those that are: of
    steps (from, number, whether it goes back, to)."""
    free = [(asker, k, False, item) for asker, k, item in found if (asker, k, item) not in used]
    return least_ways(WISHED, as_set(free + [(item, k, True, asker) for asker, k, item in used]))


def _flow(found, item):
    """A list of ASKS, used by as many WAYS to item as can be with no common ASK."""
    used = []
    while True:
        ways = _come_to_freely(found, used)
        if item not in ways:
            return used
        for one, k, goes_back, other in ways[item]:
            if goes_back:
                used.remove((other, k, one))
            else:
                used.append((one, k, other))


def ways_apart(registry, wish, lock, item):
    found, item = _asks_around(registry, wish, lock, item)
    used, rows = _flow(found, item), []
    while True:
        ways = least_ways(WISHED, as_set(used))
        if item not in ways:
            return tuple(rows)
        rows.append(ways[item])
        used = [own for own in used if own not in ways[item]]


def are_ways_apart(registry, wish, lock, item, thing):
    found, item = _asks_around(registry, wish, lock, item)
    if not isinstance(thing, tuple) or not all(_is_way(found, item, way) for way in thing):
        return False
    used = [own for way in thing for own in way]
    return len(as_set(used)) == len(used)


def asks_to_drop(registry, wish, lock, item):
    found, item = _asks_around(registry, wish, lock, item)
    ways = _come_to_freely(found, _flow(found, item))
    return tuple([own for own in found if own[0] in ways and own[2] not in ways])


def is_ask_drop(registry, wish, lock, item, thing):
    found, item = _asks_around(registry, wish, lock, item)
    if not isinstance(thing, tuple) or not all(_is_ask(found, own) for own in thing) or not is_ascending(thing):
        return False
    return item not in least_ways(WISHED, [own for own in found if own not in thing])


def _come_to_without(found, item):
    """A dict of the WAYS to what is come to if there is nothing that asks for item."""
    return least_ways(WISHED, [own for own in found if own[2] != item])


def in_each_way(registry, wish, lock, item):
    found, item = _asks_around(registry, wish, lock, item)
    ways = least_ways(WISHED, found)
    if item not in ways:
        raise NoPaper()
    over = [own[2] for own in ways[item][:-1]]
    return as_set([own for own in over if item not in _come_to_without(found, own)])


def falls_with(registry, wish, lock, item):
    found, item = _asks_around(registry, wish, lock, item)
    kept = _come_to_without(found, item)
    return as_set([own for own in least_ways(WISHED, found) if own not in kept])


def _pulled_search(registry, wish, name, version):
    """The pair (lock, refusal), one of them None, when this RELEASE is pulled. NoName(name),
    NoRelease(version), then TooMany() by registry as it is."""
    pulled = pull(registry, name, version)
    check_lots(registry, wish)
    return searched(pulled, wish, ())


def after_pull(registry, wish, name, version):
    return _pulled_search(registry, wish, name, version)[0]


def harm(registry, wish, name, version):
    other = after_pull(registry, wish, name, version)
    lock, _ = searched(registry, wish, ())
    if lock is None:
        raise Unfit()
    if other is None:
        raise NoPaper()
    return unlike_states(lock, other)


def hurt(registry, wishes, name, version):
    release_at(registry, name, version)
    changed, lost = [], []
    for number, wish in enumerate(wishes):
        other = after_pull(registry, wish, name, version)
        lock, _ = searched(registry, wish, ())
        if lock is not None and other is None:
            lost.append(number)
        elif lock != other:
            changed.append(number)
    return tuple(changed), tuple(lost)


def must_releases(registry, wish):
    lock, _ = searched(registry, wish, ())
    if lock is None:
        raise Unfit()
    # What each LOCK that fits has, the best one has, too.
    own = [(item[0], version) for item, version in lock if item[1] == ""]
    return tuple([pair for pair in own if after_pull(registry, wish, pair[0], pair[1]) is None])


def must_refusal(registry, wish, name, version):
    _, refusal = _pulled_search(registry, wish, name, version)
    if refusal is None:
        raise NoPaper()
    return refusal
