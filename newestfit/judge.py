"""CLAIMS of all kinds, and one judge for their PAPERS."""

from newestfit.best import is_better_lock, is_rank_paper, rank_paper
from newestfit.boards import check_lots
from newestfit.errors import NoWord, Unfit
from newestfit.items import is_item
from newestfit.least import Desk, checked_asks, core_paper, is_answer, is_core_paper, is_turned_down
from newestfit.lines import is_beginning
from newestfit.locks import fits, is_lock, lean, state_of
from newestfit.marks import holds, is_mark, is_words, marks_alike, parting_words, plain_mark
from newestfit.plans import is_plan, is_tie, one_by_one, plan, tie
from newestfit.platforms import for_all, is_family
from newestfit.refusals import refuses_beginning
from newestfit.registry import is_registry, is_wish
from newestfit.shapes import as_set, in_tuples, is_ascending, is_number, is_tuple_of
from newestfit.solve import best_lock, has, searched
from newestfit.updates import held, is_lost_paper, lost, lost_paper

# What stands in a CLAIM behind its word.
SHAPES = {
    "solved": ("registry", "wish"),
    "begun": ("registry", "wish", "beginning"),
    "best": ("registry", "wish", "lock"),
    "lost": ("registry", "wish", "lock", "item"),
    "core": ("registry", "wish", "beginning", "numbers"),
    "single": ("registry", "wish", "lock", "lock"),
    "everywhere": ("registry", "wish", "family"),
    "alike": ("mark", "mark"),
}


def _is_word(thing):
    return isinstance(thing, str) and thing in SHAPES


def _are_numbers(thing):
    """Whether thing is a set of numbers from 0."""
    if not isinstance(thing, tuple) or not all(is_number(number) and number >= 0 for number in thing):
        return False
    return is_ascending(thing)


def _has_shape(thing, shape):
    if shape == "registry":
        return is_registry(thing)
    if shape == "wish":
        return is_wish(thing)
    if shape == "beginning":
        return is_beginning(thing)
    if shape == "lock":
        return is_lock(thing)
    if shape == "item":
        return is_item(thing)
    if shape == "numbers":
        return _are_numbers(thing)
    return is_family(thing) if shape == "family" else is_mark(thing)


def is_claim(thing):
    if not isinstance(thing, tuple) or thing == () or not _is_word(thing[0]):
        return False
    shapes = SHAPES[thing[0]]
    if not is_tuple_of(thing, len(shapes) + 1):
        return False
    return all(_has_shape(own, shape) for own, shape in zip(thing[1:], shapes))


# Of each kind of CLAIM, given being what stands behind its word: whether it is so, a PAPER of it, what a thing
# shows of it, True, False or None.

def _begun_is_so(given):
    registry, wish, beginning = given
    return searched(registry, wish, beginning)[0] is not None


def _begun_paper(given):
    registry, wish, beginning = given
    lock, refusal = searched(registry, wish, beginning)
    return refusal if lock is None else lock


def _begun_shown(given, thing):
    registry, wish, beginning = given
    if is_lock(thing) and fits(registry, wish, thing) and has(thing, beginning):
        return True
    return False if refuses_beginning(registry, wish, beginning, thing) else None


def _best_is_so(given):
    registry, wish, lock = given
    check_lots(registry, wish)
    if not fits(registry, wish, lock):
        raise Unfit()
    return best_lock(registry, wish) == lock


def _best_paper(given):
    registry, wish, lock = given
    return rank_paper(registry, wish, (lock,)) if _best_is_so(given) else best_lock(registry, wish)


def _best_shown(given, thing):
    registry, wish, lock = given
    if is_rank_paper(registry, wish, (lock,), thing):
        return True
    return False if is_better_lock(registry, wish, lock, thing) else None


def _lost_is_so(given):
    registry, wish, old, item = given
    check_lots(registry, wish)
    if state_of(lean(registry, wish, old), item) is None:
        raise Unfit()
    return item in lost(registry, wish, old)


def _lost_paper(given):
    registry, wish, old, item = given
    return lost_paper(registry, wish, old, item) if _lost_is_so(given) else held(registry, wish, old)


def _lost_shown(given, thing):
    registry, wish, old, item = given
    if _lost_is_so(given):
        return True if is_lost_paper(registry, wish, old, item, thing) else None
    return False if is_lock(thing) and thing == held(registry, wish, old) else None


def _one_less(numbers):
    """The list of the pairs (number, others), for each of numbers."""
    return [(number, tuple([own for own in numbers if own != number])) for number in numbers]


def _desk_and_numbers(given):
    """The pair (desk, numbers); TooMany() first, then NoNeed(number)."""
    registry, wish, begun, numbers = given
    desk = Desk(registry, wish, begun)
    return desk, checked_asks(wish, begun, numbers)


def _core_is_so(given):
    desk, numbers = _desk_and_numbers(given)
    return desk.clash(numbers) and not any(desk.clash(others) for _, others in _one_less(numbers))


def _core_paper(given):
    desk, numbers = _desk_and_numbers(given)
    if not desk.clash(numbers):
        return "answered", desk.lock_for(numbers)
    for number, others in _one_less(numbers):
        if desk.clash(others):
            return "less", number, desk.refusal_for(others)
    registry, wish, begun, _ = given
    return core_paper(registry, wish, begun, numbers)


def _core_shown(given, thing):
    registry, wish, begun, numbers = given
    checked_asks(wish, begun, numbers)
    if is_core_paper(registry, wish, begun, thing) and thing[0] == numbers:
        return True
    if is_tuple_of(thing, 2) and thing[0] == "answered":
        return False if is_answer(registry, wish, begun, numbers, thing[1]) else None
    if is_tuple_of(thing, 3) and thing[0] == "less" and is_number(thing[1]):
        for number, others in _one_less(numbers):
            if number == thing[1] and is_turned_down(registry, wish, begun, others, thing[2]):
                return False
    return None


def _single_is_so(given):
    registry, wish, near, far = given
    return one_by_one(registry, wish, near, far)


def _single_paper(given):
    registry, wish, near, far = given
    return plan(registry, wish, near, far) if _single_is_so(given) else tie(registry, wish, near, far)


def _single_shown(given, thing):
    registry, wish, near, far = given
    if is_plan(registry, wish, near, far, thing) and all(len(names) == 1 for names in thing):
        return True
    return False if is_tie(registry, wish, near, far, thing) else None


def _alike_is_so(given):
    return marks_alike(given[0], given[1])


def _alike_paper(given):
    one, other = given
    return plain_mark(one) if marks_alike(one, other) else parting_words(one, other)


def _alike_shown(given, thing):
    one, other = given
    if marks_alike(one, other):
        return True if thing == plain_mark(one) else None
    return False if is_words(thing) and holds(one, thing) != holds(other, thing) else None


JUDGES = {
    "begun": (_begun_is_so, _begun_paper, _begun_shown),
    "best": (_best_is_so, _best_paper, _best_shown),
    "lost": (_lost_is_so, _lost_paper, _lost_shown),
    "core": (_core_is_so, _core_paper, _core_shown),
    "single": (_single_is_so, _single_paper, _single_shown),
    "alike": (_alike_is_so, _alike_paper, _alike_shown),
}


def _judges_of(claim):
    """The pair (judges, given) of a CLAIM. Unfit() for (), NoWord(word), then Unfit()."""
    claim = in_tuples(claim)
    if claim == ():
        raise Unfit()
    if not _is_word(claim[0]):
        raise NoWord(claim[0])
    if len(claim) != len(SHAPES[claim[0]]) + 1:
        raise Unfit()
    word, given = claim[0], claim[1:]
    if word == "everywhere":
        # One LOCK fits by all WORDS exactly if it fits the pair of for_all.
        registry, wish, family = given
        word, given = "solved", for_all(registry, wish, family)
    if word == "solved":
        # Each LOCK has the BEGINNING (), and this one meets the LINE () alone.
        word, given = "begun", given + ((),)
    return JUDGES[word], given


def is_so(claim):
    judges, given = _judges_of(claim)
    decide = judges[0]
    return decide(given)


def paper(claim):
    judges, given = _judges_of(claim)
    write = judges[1]
    return write(given)


def is_paper(claim, thing):
    return shows(claim, thing) is not None


def shows(claim, thing):
    judges, given = _judges_of(claim)
    look = judges[2]
    return look(given, thing)


def not_so(claims):
    return tuple([number for number, claim in enumerate(claims) if not is_so(claim)])


def words_so(claims):
    rows = []
    for claim in claims:
        decided = is_so(claim)
        rows.append((claim[0], decided))
    wrong = [word for word, decided in rows if not decided]
    return as_set([word for word, _ in rows if word not in wrong])
