"""Updates: what is kept of an old LOCK, what is lost, and why."""

from newestfit.boards import Board, check_lots
from newestfit.errors import NoPaper, Unfit
from newestfit.items import order, states
from newestfit.locks import first_other, lean, state_of
from newestfit.refusals import refuses_beginning
from newestfit.registry import publish
from newestfit.shapes import as_set, in_tuples
from newestfit.solve import best_lock, can_fit, refusal_having


def _most_kept_first(own, old, base, item):
    """The STATES of item, own from the best on, from the most kept on; base is a LOCK."""
    version = state_of(old, item)
    if version is None or version not in own:
        return own
    rest = tuple([state for state in own[1:] if state != version])
    if state_of(base, item) is None:
        return (None, version) + rest
    return (version, None) + rest


def kept_states(registry, wish, old, item):
    return _most_kept_first(states(registry, wish, item), old, lean(registry, wish, old), item)


def keeps_more(registry, wish, old, one, other):
    item = first_other(registry, wish, one, other)
    if item is None:
        return False
    row = kept_states(registry, wish, old, item)
    return row.index(state_of(one, item)) < row.index(state_of(other, item))


def _held(registry, wish, old, names):
    """What would be held if ITEMS of these NAMES had their STATES from the best on; NoPaper() if nothing
    fits."""
    board = Board(registry, wish, ())
    base, rows = lean(registry, wish, old), {}
    for item in board.along:
        own = board.choices[item]
        rows[item] = own if item[0] in names else _most_kept_first(own, old, base, item)
    lock, refusal = board.search({}, rows)
    if refusal is not None:
        raise NoPaper()
    return lock


def held(registry, wish, old):
    check_lots(registry, wish)
    return _held(registry, wish, old, ())


def updated(registry, wish, old):
    return lean(registry, wish, held(registry, wish, old))


def refreshed(registry, wish, old, names):
    check_lots(registry, wish)
    return lean(registry, wish, _held(registry, wish, old, names))


def fate(registry, wish, old, item):
    check_lots(registry, wish)
    version = state_of(old, item)
    if version is None:
        raise Unfit()
    if in_tuples(item) in lost(registry, wish, old):
        return "lost"
    return "kept" if state_of(updated(registry, wish, old), item) == version else "needless"


def lost(registry, wish, old):
    kept = held(registry, wish, old)
    return tuple([item for item, version in lean(registry, wish, old) if state_of(kept, item) != version])


def _beginning_of_lost(registry, wish, old, item):
    """The BEGINNING of the ITEMS ahead of item in the ORDER as they are held, and of item as the base has
    it; NoPaper() unless item is lost."""
    item = in_tuples(item)
    if item not in lost(registry, wish, old):
        raise NoPaper()
    items, kept = order(registry, wish), held(registry, wish, old)
    told = {own: state_of(kept, own) for own in items[:items.index(item)]}
    told[item] = state_of(old, item)
    return tuple([(own, told[own]) for own in as_set(list(told))])


def lost_paper(registry, wish, old, item):
    beginning = _beginning_of_lost(registry, wish, old, item)
    return refusal_having(registry, wish, beginning)


def is_lost_paper(registry, wish, old, item, thing):
    beginning = _beginning_of_lost(registry, wish, old, item)
    return refuses_beginning(registry, wish, beginning, thing)


def unlike_states(one, other):
    items = as_set([pair[0] for pair in in_tuples(one) + in_tuples(other)])
    rows = [(item, state_of(one, item), state_of(other, item)) for item in items]
    return tuple([row for row in rows if row[1] != row[2]])


def best_behind(registry, wish, release):
    more = publish(registry, release)
    return best_lock(more, wish) if can_fit(more, wish) else None


def stays(registry, wish, release):
    behind = best_behind(registry, wish, release)
    return behind == (best_lock(registry, wish) if can_fit(registry, wish) else None)
