"""From one LOCK that fits to another one: what has to be changed at once, what ahead of what."""

from newestfit.errors import NoName, NoPaper, Unfit
from newestfit.graphs import all_led_to, least_ways
from newestfit.lines import leaves_told, line_met, line_of_leaf
from newestfit.locks import fits
from newestfit.marks import is_words
from newestfit.shapes import as_set, in_tuples, sets_of
from newestfit.updates import unlike_states
from newestfit.versions import is_name


def changed(near, far):
    return as_set([row[0][0] for row in unlike_states(near, far)])


def _check_changed(near, far, names):
    there = changed(near, far)
    for name in names:
        if name not in there:
            raise NoName(name)


def lock_then(near, far, names):
    _check_changed(near, far, names)
    kept = [pair for pair in in_tuples(near) if pair[0][0] not in names]
    return tuple(sorted(kept + [pair for pair in in_tuples(far) if pair[0][0] in names]))


def _check_fit(registry, wish, near, far):
    if not fits(registry, wish, near) or not fits(registry, wish, far):
        raise Unfit()


def _arrow_rows(registry, wish, near, far):
    """The set of the triples (x, y, LEAF): an ARROW from x to y, and a LEAF that makes it. Unfit() first of
    all."""
    _check_fit(registry, wish, near, far)
    registry, wish, rows = in_tuples(registry), in_tuples(wish), []
    for leaf in leaves_told(registry, wish):
        line = line_of_leaf(registry, wish, leaf)
        names = as_set([term[0][0] for term in line])
        # Just the LINES of needs and clashes speak of two NAMES; none is met if one of these is not changed,
        # as then all is as in near, or as in far, which fit.
        if len(names) == 2:
            for x, y in (names, names[::-1]):
                mixed = [pair for pair in far if pair[0][0] == x] + [pair for pair in near if pair[0][0] == y]
                if line_met(line, mixed):
                    rows.append((x, y, leaf))
    return tuple(sorted(rows))


def arrows(registry, wish, near, far):
    return as_set([row[:2] for row in _arrow_rows(registry, wish, near, far)])


def why_arrow(registry, wish, near, far, x, y):
    rows = _arrow_rows(registry, wish, near, far)
    _check_changed(near, far, (x, y))
    return [leaf for one, other, leaf in rows if (one, other) == (x, y)]


def _leads(registry, wish, near, far):
    """A dict of the lists of the NAMES to which ARROWS lead, by the changed NAME from which they do."""
    found = {name: [] for name in changed(near, far)}
    for x, y in arrows(registry, wish, near, far):
        found[x].append(y)
    return found


def _is_kept_ahead(leads, names):
    return all(other in names for name in names for other in leads[name])


def keeps_ahead(registry, wish, near, far, names):
    leads = _leads(registry, wish, near, far)
    _check_changed(near, far, names)
    return _is_kept_ahead(leads, names)


def all_ahead(registry, wish, near, far):
    leads = _leads(registry, wish, near, far)
    return sorted([own for own in sets_of(leads) if _is_kept_ahead(leads, own)])


def goes_with(registry, wish, near, far, name):
    leads = _leads(registry, wish, near, far)
    _check_changed(near, far, (name,))
    return all_led_to([name], leads)


def _knots_by(leads):
    """The list of the KNOTS, ascending."""
    behind = {name: all_led_to([name], leads) for name in leads}
    return list(as_set([tuple([other for other in behind[name] if name in behind[other]]) for name in leads]))


def knots(registry, wish, near, far):
    return _knots_by(_leads(registry, wish, near, far))


def plan(registry, wish, near, far):
    leads = _leads(registry, wish, near, far)
    waiting, done, found = _knots_by(leads), [], []
    while waiting:
        # KNOTS are on no ring, so some one can always be next.
        free = [knot for knot in waiting if _is_kept_ahead(leads, done + list(knot))]
        found.append(free[0])
        done.extend(free[0])
        waiting.remove(free[0])
    return tuple(found)


def is_plan(registry, wish, near, far, thing):
    _check_fit(registry, wish, near, far)
    if not isinstance(thing, tuple) or not all(is_words(own) and own != () for own in thing):
        return False
    if sorted([name for own in thing for name in own]) != list(changed(near, far)):
        return False
    done = ()
    for own in thing:
        done = done + own
        if not fits(registry, wish, lock_then(near, far, done)):
            return False
    return True


def one_by_one(registry, wish, near, far):
    return all(len(knot) == 1 for knot in knots(registry, wish, near, far))


def tie(registry, wish, near, far):
    found = arrows(registry, wish, near, far)
    rings = []
    for x, y in found:
        back = least_ways(y, found).get(x, None)
        if back is not None:
            rings.append((x,) + tuple([step[0] for step in back]))
    if not rings:
        raise NoPaper()
    return min(rings, key=len)


def is_tie(registry, wish, near, far, thing):
    found = arrows(registry, wish, near, far)
    if not isinstance(thing, tuple) or len(thing) < 2 or not all(is_name(name) for name in thing):
        return False
    if len(as_set(thing)) < len(thing):
        return False
    return all(step in found for step in zip(thing, thing[1:] + thing[:1]))
