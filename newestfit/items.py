"""ITEMS: the ORDER, STATES from the best on, NEEDS, closings, and what a WISH reaches."""

from newestfit.errors import Unfit
from newestfit.marks import holds
from newestfit.ranges import in_range
from newestfit.registry import release_at
from newestfit.releases import all_needs, has_part, is_release_open, needs_that_count, open_for
from newestfit.releases import part_needs, release_of
from newestfit.shapes import as_set, in_tuples, is_tuple_of
from newestfit.versions import from_best, is_name


def is_item(thing):
    return is_tuple_of(thing, 2) and is_name(thing[0]) and (thing[1] == "" or is_name(thing[1]))


def targets(need):
    return tuple([(need[0], part) for part in ("",) + in_tuples(need[2])])


def targets_of_all(needs):
    """The list of the targets of all these NEEDS, which are made of tuples."""
    return [item for need in needs for item in targets(need)]


def counting(wish):
    return tuple([k for k, need in enumerate(wish[0]) if holds(need[3], wish[1])])


def _release_having(registry, item, version):
    """The RELEASE of the name of item and of version; it has the part of item, too."""
    release = release_at(registry, item[0], version)
    if not has_part(release, item[1]):
        raise Unfit()
    return release


def needs_of(registry, item, version):
    return part_needs(_release_having(registry, item, version), item[1])


def asked_by(registry, wish, item, version):
    return needs_that_count(needs_of(registry, item, version), wish[1])


def _needs_told(registry, wish):
    """The list of all NEEDS in both, counting or not."""
    return list(wish[0]) + [need for release in registry for need in all_needs(release)]


def name_order(registry, wish):
    return _names_told(in_tuples(registry), in_tuples(wish))


def _names_told(registry, wish):
    """The NAMES of the ORDER; registry and wish are made of tuples."""
    # A dict keeps the NAMES as they come first, each once.
    wished = {need[0]: True for need in needs_that_count(wish[0], wish[1])}
    told = [need[0] for need in _needs_told(registry, wish)] + [release[0] for release in registry]
    told.extend([clash[0] for release in registry for clash in release[4]])
    return tuple(wished) + tuple([name for name in as_set(told) if name not in wished])


def order(registry, wish):
    return items_told(in_tuples(registry), in_tuples(wish))


def items_told(registry, wish):
    """The ORDER; registry and wish are made of tuples."""
    parted = [(release[0], part[0]) for release in registry for part in release[3]]
    parted.extend([(need[0], part) for need in _needs_told(registry, wish) for part in need[2]])
    parted = as_set(parted)
    items = []
    for name in _names_told(registry, wish):
        items.append((name, ""))
        items.extend([item for item in parted if item[0] == name])
    return tuple(items)


def order_place(registry, wish, item):
    items, item = order(registry, wish), in_tuples(item)
    if item not in items:
        raise Unfit()
    return items.index(item)


def states_from_best(registry, early, item):
    """The STATES of item; all that is handed in is made of tuples."""
    return (None,) + from_best(open_for(registry, early, item))


def states(registry, wish, item):
    return states_from_best(in_tuples(registry), wish[2], item)


def ranks(registry, wish, lock):
    registry, items = in_tuples(registry), order(registry, wish)
    there = {item: version for item, version in in_tuples(lock)}
    if any(item not in items for item in there):
        raise Unfit()
    places = []
    for item in items:
        own = states_from_best(registry, wish[2], item)
        state = there.get(item, None)
        if state not in own:
            raise Unfit()
        places.append(own.index(state))
    return tuple(places)


def lock_ranked(registry, wish, places):
    registry, items = in_tuples(registry), order(registry, wish)
    if len(places) != len(items):
        raise Unfit()
    there = []
    for item, place in zip(items, places):
        own = states_from_best(registry, wish[2], item)
        if place < 0 or place >= len(own):
            raise Unfit()
        if own[place] is not None:
            there.append((item, own[place]))
    return tuple(sorted(there))


def lots(registry, wish):
    registry, wish, many = in_tuples(registry), in_tuples(wish), 1
    for item in items_told(registry, wish):
        many = many * len(states_from_best(registry, wish[2], item))
    return many


def _closed_from(release, words, item):
    """The pair (items, needs): the closing of item at the VERSION of release, and the NEEDS looked at
    for it."""
    name = item[0]
    found, needs, waiting = {}, [], [(name, item[1]), (name, "")]
    while waiting:
        own = waiting.pop()
        if own not in found:
            found[own] = True
            # Of a part that release has not there are no NEEDS: it asks for nothing.
            asking = [need for need in part_needs(release, own[1]) if need[0] == name]
            counted = needs_that_count(asking, words)
            needs.extend(counted)
            waiting.extend(targets_of_all(counted))
    return as_set(list(found)), needs


def closing(registry, wish, item, version):
    release = _release_having(registry, item, version)
    return _closed_from(release, wish[1], item)[0]


def closes(registry, wish, item, version):
    release = _release_having(registry, item, version)
    items, needs = _closed_from(release, wish[1], item)
    if not all(in_range(need[1], version) for need in needs):
        return False
    return all(is_release_open(release, wish[2], own[1]) for own in items)


def _asked_when_open(registry, wish, item):
    """The list of the ITEMS for which item asks at VERSIONS open for it."""
    found = []
    for version in open_for(registry, wish[2], item):
        needs = part_needs(release_of(registry, item[0], version), item[1])
        found.extend(targets_of_all(needs_that_count(needs, wish[1])))
    return found


def all_come_to(wished, asked_of):
    """The list, as they come up, of the ITEMS in wished and of all to which these lead: an ITEM leads to the
    one of its NAME with "" and to those that asked_of tells of it."""
    found, waiting = {}, list(wished)
    while waiting:
        item = waiting.pop()
        if item not in found:
            found[item] = True
            waiting.append((item[0], ""))
            waiting.extend(asked_of(item))
    return list(found)


def reached(registry, wish):
    registry, wish = in_tuples(registry), in_tuples(wish)
    wished = targets_of_all(needs_that_count(wish[0], wish[1]))
    return as_set(all_come_to(wished, lambda item: _asked_when_open(registry, wish, item)))
