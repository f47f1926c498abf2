"""Solving: the best LOCK, or a REFUSAL; what begins as is told, too; THE SEARCH."""

from newestfit.boards import Board, check_lots
from newestfit.errors import NoPaper, Unfit
from newestfit.items import order, states
from newestfit.lines import leaves_told, line_begun, line_of_leaf, shut_leaf, term_at, term_holds
from newestfit.locks import is_lock, state_of
from newestfit.ranges import just
from newestfit.refusals import joined_all, refusal_line, refuses
from newestfit.releases import open_release
from newestfit.shapes import in_tuples, is_tuple_of


def has(lock, beginning):
    return all(state_of(lock, item) == state for item, state in in_tuples(beginning))


def _shut_pairs(registry, wish, beginning):
    """The list of the LEAVES "none" of the VERSIONS in beginning that are not open."""
    opened = [pair for pair in beginning if pair[1] is not None]
    return [("none", item, just(version)) for item, version in opened
            if open_release(registry, wish[2], item, version) is None]


def leaf_against(registry, wish, beginning):
    registry, wish, beginning = in_tuples(registry), in_tuples(wish), in_tuples(beginning)
    for leaf in _shut_pairs(registry, wish, beginning) + leaves_told(registry, wish):
        if line_begun(line_of_leaf(registry, wish, leaf), beginning):
            return leaf
    raise NoPaper()


def next_item(registry, wish, beginning):
    told = [pair[0] for pair in in_tuples(beginning)]
    for item in order(registry, wish):
        if item not in told:
            return item
    return None


def closed(registry, wish, item, refusals):
    own = states(registry, wish, item)
    if len(own) != len(refusals):
        raise Unfit()
    for state, refusal in zip(own, refusals):
        if not term_holds(term_at(refusal_line(registry, wish, refusal), item), state):
            raise Unfit()
    shut = ("leaf", shut_leaf(in_tuples(registry), in_tuples(wish)[2], in_tuples(item)))
    return joined_all(item, list(refusals) + [shut])


def first_known(registry, wish, refusals, beginning):
    for number, refusal in enumerate(refusals):
        if line_begun(refusal_line(registry, wish, refusal), beginning):
            return number
    return None


def searched(registry, wish, beginning):
    """The pair (lock, refusal), one of them None: the best LOCK that fits and has beginning, or a REFUSAL
    whose LINE this meets. TooMany() first of all."""
    check_lots(registry, wish)
    registry, wish, beginning = in_tuples(registry), in_tuples(wish), in_tuples(beginning)
    shut = _shut_pairs(registry, wish, beginning)
    if shut:
        return None, ("leaf", shut[0])
    begun = {item: state for item, state in beginning}
    board = Board(registry, wish, tuple(begun))
    return board.search(begun, board.choices)


def best_having(registry, wish, beginning):
    lock, refusal = searched(registry, wish, beginning)
    if refusal is not None:
        raise NoPaper()
    return lock


def refusal_having(registry, wish, beginning):
    _, refusal = searched(registry, wish, beginning)
    if refusal is None:
        raise NoPaper()
    return refusal


def solved(registry, wish):
    lock, refusal = searched(registry, wish, ())
    return ("lock", lock) if refusal is None else ("refused", refusal)


def is_solved(registry, wish, thing):
    word, paper = solved(registry, wish)
    if not is_tuple_of(thing, 2) or thing[0] != word:
        return False
    if word == "lock":
        # As 1 and True compare as equal, the shape is looked at, too.
        return is_lock(thing[1]) and thing[1] == paper
    return refuses(registry, wish, thing[1])


def can_fit(registry, wish):
    return solved(registry, wish)[0] == "lock"


def best_lock(registry, wish):
    return best_having(registry, wish, ())


def refusal_of(registry, wish):
    return refusal_having(registry, wish, ())


def looked_at(registry, wish):
    check_lots(registry, wish)
    return Board(registry, wish, order(registry, wish)).looked()
