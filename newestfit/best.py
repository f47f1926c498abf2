"""The best LOCK and the next ones: TURNINGS, and PAPERS that none are better, that these are all."""

from newestfit.boards import MOST_LOTS, Board, check_lots
from newestfit.errors import NoPaper, Unfit
from newestfit.locks import is_lock
from newestfit.refusals import refuse_all
from newestfit.shapes import in_tuples, is_ascending


def _rank_rows(board, locks):
    """The list of the ranks of locks; Unfit() unless all fit, each worse than the one ahead."""
    if not all(board.is_fitting(lock) for lock in locks):
        raise Unfit()
    rows = [board.ranks_of(lock) for lock in locks]
    if not is_ascending(rows):
        raise Unfit()
    return rows


def _turning_ranks(board, rows):
    """The list, in order, of the TURNINGS of LOCKS with the ranks in rows: of each the ranks of its STATES,
    along the ORDER."""
    found, waiting = [], [((), rows)]
    while waiting:
        begun, having = waiting.pop()
        if not having:
            found.append(begun)
        elif len(begun) < len(board.along):
            depth = len(begun)
            # The last one put there is the next one looked at.
            for place in reversed(range(len(board.choices[board.along[depth]]))):
                waiting.append((begun + (place,), [row for row in having if row[depth] == place]))
    return found


def _ranks_ahead(board, rows):
    """Of those the ones that are ahead."""
    return [begun for begun in _turning_ranks(board, rows) if rows and begun < rows[-1]]


def _states_told(board, begun):
    """A dict of the STATES of a TURNING with these ranks."""
    return {item: board.choices[item][place] for item, place in zip(board.along, begun)}


def _beginnings(board, turned):
    """The list of the TURNINGS with these ranks."""
    rows = []
    for begun in turned:
        told = _states_told(board, begun)
        rows.append(tuple([(item, told[item]) for item in sorted(told)]))
    return rows


def _board_and_rows(registry, wish, locks):
    board = Board(registry, wish, ())
    return board, _rank_rows(board, in_tuples(locks))


def turnings(registry, wish, locks):
    board, rows = _board_and_rows(registry, wish, locks)
    return _beginnings(board, _turning_ranks(board, rows))


def turnings_ahead(registry, wish, locks):
    board, rows = _board_and_rows(registry, wish, locks)
    return _beginnings(board, _ranks_ahead(board, rows))


def _paper_against(board, turned):
    """The tuple of a REFUSAL for each TURNING with these ranks; NoPaper() if a LOCK that fits has one."""
    found = []
    for begun in turned:
        _, refusal = board.search(_states_told(board, begun), board.choices)
        if refusal is None:
            raise NoPaper()
        found.append(refusal)
    return tuple(found)


def rank_paper(registry, wish, locks):
    check_lots(registry, wish)
    board, rows = _board_and_rows(registry, wish, locks)
    return _paper_against(board, _ranks_ahead(board, rows))


def full_paper(registry, wish, locks):
    check_lots(registry, wish)
    board, rows = _board_and_rows(registry, wish, locks)
    return _paper_against(board, _turning_ranks(board, rows))


def is_rank_paper(registry, wish, locks, thing):
    return refuse_all(registry, wish, turnings_ahead(registry, wish, locks), thing)


def is_full_paper(registry, wish, locks, thing):
    return refuse_all(registry, wish, turnings(registry, wish, locks), thing)


def best_locks(registry, wish, many):
    check_lots(registry, wish)
    return Board(registry, wish, ()).fitting(many)


def ranked(registry, wish, number):
    check_lots(registry, wish)
    found = Board(registry, wish, ()).fitting(number + 1)
    if number < 0 or number >= len(found):
        raise NoPaper()
    return found[number]


def _fitting_board(registry, wish, lock):
    """The triple (board, lock, ranks) of a LOCK that fits, else Unfit(); TooMany() first of all."""
    check_lots(registry, wish)
    board, rows = _board_and_rows(registry, wish, (lock,))
    return board, in_tuples(lock), rows[0]


def rank_of(registry, wish, lock):
    board, lock, _ = _fitting_board(registry, wish, lock)
    return board.fitting(MOST_LOTS).index(lock)


def better_lock(registry, wish, lock):
    board, lock, _ = _fitting_board(registry, wish, lock)
    best, _ = board.search({}, board.choices)
    if best == lock:
        raise NoPaper()
    return best


def is_better_lock(registry, wish, lock, thing):
    board, rows = _board_and_rows(registry, wish, (lock,))
    return is_lock(thing) and board.is_fitting(thing) and board.ranks_of(thing) < rows[0]


def _first_having(board, turned, rows):
    """Of the LOCKS that fit and have the first of the TURNINGS with these ranks that any has, the first by
    the STATES in rows; NoPaper() if there is none."""
    for begun in turned:
        lock, _ = board.search(_states_told(board, begun), rows)
        if lock is not None:
            return lock
    raise NoPaper()


def next_best(registry, wish, lock):
    board, _, places = _fitting_board(registry, wish, lock)
    behind = [begun for begun in _turning_ranks(board, [places]) if begun > places]
    return _first_having(board, behind, board.choices)


def next_better(registry, wish, lock):
    board, _, places = _fitting_board(registry, wish, lock)
    # The worst one is the first from the worst STATES on.
    ahead = _ranks_ahead(board, [places])
    return _first_having(board, ahead[::-1], {item: board.choices[item][::-1] for item in board.along})


def turned_down(registry, wish):
    check_lots(registry, wish)
    board = Board(registry, wish, ())
    lock, refusal = board.search({}, board.choices)
    if refusal is not None:
        raise NoPaper()
    found = []
    for begun in _ranks_ahead(board, [board.ranks_of(lock)]):
        item = board.along[len(begun) - 1]
        found.append((item, board.choices[item][begun[-1]]))
    return found
