"""All locks: the LEAN ones, what is sure and what is dead, what never comes together, COVERS."""

from newestfit.boards import MOST_LOTS, Board, check_lots
from newestfit.errors import NoPaper, Unfit
from newestfit.items import all_come_to, states, targets_of_all
from newestfit.lines import term_holds
from newestfit.locks import asked_there, is_lock
from newestfit.refusals import is_refusal, joined_all, refusal_line
from newestfit.registry import is_open
from newestfit.releases import needs_that_count
from newestfit.shapes import as_set, in_tuples, is_ascending
from newestfit.solve import can_fit, refusal_having, refusal_of


def _needed_by(wished, asked, chosen):
    """The list of the needed ITEMS, as they come up, if NAMES have the VERSIONS in chosen, a dict; asked is
    a dict of the ITEMS for which the pairs (ITEM, VERSION) ask, wished those for which the WISH asks."""
    return all_come_to(wished, lambda item: asked.get((item, chosen.get(item[0], None)), ()))


def lean_locks(registry, wish):
    registry, wish = in_tuples(registry), in_tuples(wish)
    board, asked = Board(registry, wish, ()), {}
    for item in board.along:
        for version in board.choices[item][1:]:
            asked[(item, version)] = asked_there(registry, wish, item, version)
    wished = targets_of_all(needs_that_count(wish[0], wish[1]))
    # A LEAN LOCK is told by the VERSIONS of its needed NAMES, one behind the other.
    rows, waiting = [], [{}]
    while waiting:
        chosen = waiting.pop()
        items = _needed_by(wished, asked, chosen)
        wanting = [item[0] for item in items if item[0] not in chosen]
        if wanting:
            for version in board.choices[(wanting[0], "")][1:]:
                longer = {name: chosen[name] for name in chosen}
                longer[wanting[0]] = version
                waiting.append(longer)
            continue
        lock = tuple([(item, chosen[item[0]]) for item in sorted(items)])
        if board.is_fitting(lock):
            rows.append((board.ranks_of(lock), lock))
    return [row[1] for row in sorted(rows)]


def how_many(registry, wish):
    return len(lean_locks(registry, wish))


def lean_at(registry, wish, number):
    found = lean_locks(registry, wish)
    if number < 0 or number >= len(found):
        raise Unfit()
    return found[number]


def lean_number(registry, wish, lock):
    found, lock = lean_locks(registry, wish), in_tuples(lock)
    if lock not in found:
        raise Unfit()
    return found.index(lock)


def _pairs_in(locks):
    """The set of the pairs (ITEM, VERSION) that some of locks has."""
    return as_set([pair for lock in locks for pair in lock])


def shares(registry, wish):
    locks = lean_locks(registry, wish)
    return [(pair, len([lock for lock in locks if pair in lock])) for pair in _pairs_in(locks)]


def _is_had(board, item, state):
    """Whether some LOCK that fits has this STATE, None or open, of item."""
    lock, _ = board.search({item: state}, board.choices)
    return lock is not None


def kind_of(registry, wish, item, version):
    check_lots(registry, wish)
    item, version = in_tuples(item), in_tuples(version)
    if not is_open(registry, wish[2], item, version):
        return "shut"
    if (item, version) in _pairs_in(lean_locks(registry, wish)):
        return "live"
    return "idle" if _is_had(Board(registry, wish, (item,)), item, version) else "dead"


def states_had(registry, wish, item):
    check_lots(registry, wish)
    item = in_tuples(item)
    board = Board(registry, wish, (item,))
    return tuple([state for state in states(registry, wish, item) if _is_had(board, item, state)])


def sure(registry, wish):
    locks = lean_locks(registry, wish)
    if not locks:
        raise NoPaper()
    # What all LEAN ones have is sure, nothing else is.
    return tuple([pair for pair in locks[0] if all(pair in lock for lock in locks)])


def dead(registry, wish):
    check_lots(registry, wish)
    found = []
    board = Board(registry, wish, ())
    for item in board.along:
        found.extend([(item, version) for version in board.choices[item][1:] if not _is_had(board, item, version)])
    return as_set(found)


def sure_paper(registry, wish, item, version):
    check_lots(registry, wish)
    if not can_fit(registry, wish):
        return refusal_of(registry, wish)
    version = in_tuples(version)
    others = [state for state in states(registry, wish, item) if state != version]
    # NoPaper() comes from here if some LOCK that fits has another STATE.
    return joined_all(item, [refusal_having(registry, wish, ((item, state),)) for state in others])


def is_sure_paper(registry, wish, item, version, thing):
    if not is_refusal(registry, wish, thing):
        return False
    line = refusal_line(registry, wish, thing)
    if line == ():
        return True
    if len(line) > 1 or line[0][0] != in_tuples(item):
        return False
    version = in_tuples(version)
    others = [own for own in states(registry, wish, item) if own != version]
    return all(term_holds(line[0], state) for state in others)


def pairs_apart(registry, wish):
    check_lots(registry, wish)
    together = {}
    for lock in Board(registry, wish, ()).fitting(MOST_LOTS):
        for k, pair in enumerate(lock):
            more = together.setdefault(pair, {})
            for other in lock[k + 1:]:
                more[other] = True
    pairs = as_set(list(together))
    return as_set([(one, other) for one in pairs for other in pairs
                   if one < other and one[0] != other[0] and other not in together[one]])


def _gains(locks, left, pair):
    """The list of the pairs (what of left a lock has, lock) of those of locks that have pair, the greatest
    first; without those whose gain lies in another one's."""
    rows = {}
    for lock in locks:
        if pair in lock:
            rows.setdefault(tuple([own for own in left if own in lock]), lock)
    kept = []
    for _, gain in sorted([(-len(row), row) for row in rows]):
        if not any(all(own in other[0] for own in gain) for other in kept):
            kept.append((gain, rows[gain]))
    return kept


def _most_of_one_item(pairs):
    """How many of these pairs are of one ITEM at most: a LOCK has just one of these."""
    many = {}
    for item, _ in pairs:
        many[item] = many.get(item, 0) + 1
    return max([many[item] for item in many], default=0)


def _covering(locks, left, many):
    """A list of at most so many of locks in which all pairs of left are; None if there is none."""
    if not left:
        return []
    if _most_of_one_item(left) > many:
        return None
    # The pair that leaves the fewest choices is looked at first.
    choices = [_gains(locks, left, pair) for pair in left]
    fewest = min([len(rows) for rows in choices])
    for gain, lock in [rows for rows in choices if len(rows) == fewest][0]:
        rest = _covering(locks, [own for own in left if own not in gain], many - 1)
        if rest is not None:
            return rest + [lock]
    return None


def cover(registry, wish):
    locks = lean_locks(registry, wish)
    left = list(_pairs_in(locks))
    many, found = 0, None
    while found is None:
        found = _covering(locks, left, many)
        many += 1
    return as_set(found)


def is_cover(registry, wish, thing):
    if not isinstance(thing, tuple) or not all(is_lock(own) for own in thing) or not is_ascending(thing):
        return False
    locks = lean_locks(registry, wish)
    return all(own in locks for own in thing) and _pairs_in(thing) == _pairs_in(locks)
