"""Asks that clash: CORES that can't be had together, DROPS without which the rest can, PAPERS of both."""

from newestfit.boards import check_lots
from newestfit.errors import NoNeed, NoPaper
from newestfit.locks import fits, is_lock
from newestfit.refusals import refuses_beginning
from newestfit.shapes import as_set, in_tuples, is_ascending, is_number, is_tuple_of, sets_of
from newestfit.solve import has, searched


def _numbers_of(wish, begun):
    """The set of the numbers of all asks."""
    return tuple(range(len(wish[0]) + len(begun)))


def _left(numbers, without):
    """The set of numbers without these."""
    return tuple([number for number in numbers if number not in without])


def _cut_to(wish, begun, numbers):
    """The pair of both cut to numbers; all that is handed in is made of tuples."""
    many = len(wish[0])
    needs = tuple([wish[0][number] for number in numbers if number < many])
    pairs = tuple([begun[number - many] for number in numbers if number >= many])
    return (needs, wish[1], wish[2]), pairs


def are_asks(wish, begun, thing):
    """Whether thing is a set of numbers of asks."""
    if not isinstance(thing, tuple) or not all(is_number(number) for number in thing):
        return False
    return is_ascending(thing) and all(number in _numbers_of(wish, begun) for number in thing)


def checked_asks(wish, begun, numbers):
    """The set of numbers, made of tuples; NoNeed(number) for the first that is none of an ask."""
    there = _numbers_of(wish, begun)
    for number in numbers:
        if number not in there:
            raise NoNeed(number)
    return in_tuples(numbers)


def cut(wish, begun, numbers):
    numbers = checked_asks(wish, begun, numbers)
    return _cut_to(in_tuples(wish), in_tuples(begun), numbers)


def is_answer(registry, wish, begun, numbers, thing):
    """Whether thing is a LOCK that answers numbers."""
    wanted, pairs = cut(wish, begun, numbers)
    return is_lock(thing) and fits(registry, wanted, thing) and has(thing, pairs)


def is_turned_down(registry, wish, begun, numbers, thing):
    """Whether thing is a REFUSAL, by wish cut to numbers, whose LINE begun cut to numbers meets."""
    wanted, pairs = cut(wish, begun, numbers)
    return refuses_beginning(registry, wanted, pairs, thing)


class Desk:
    """The asks of a WISH and a BEGINNING; what was found for sets of their numbers is kept."""

    def __init__(self, registry, wish, begun):
        check_lots(registry, wish)
        self.registry = in_tuples(registry)
        self.wish = in_tuples(wish)
        self.begun = in_tuples(begun)
        self.everything = _numbers_of(self.wish, self.begun)
        self.known = {}

    def answer(self, numbers):
        """The pair (lock, refusal), one of them None: a LOCK that answers numbers, or a REFUSAL that shows
        that they clash."""
        if numbers not in self.known:
            wanted, pairs = _cut_to(self.wish, self.begun, numbers)
            self.known[numbers] = searched(self.registry, wanted, pairs)
        return self.known[numbers]

    def clash(self, numbers):
        return self.answer(numbers)[0] is None

    def lock_for(self, numbers):
        """A LOCK that answers numbers; NoPaper() if they clash."""
        lock, _ = self.answer(numbers)
        if lock is None:
            raise NoPaper()
        return lock

    def refusal_for(self, numbers):
        """A REFUSAL that shows that numbers clash; NoPaper() if they do not."""
        _, refusal = self.answer(numbers)
        if refusal is None:
            raise NoPaper()
        return refusal

    def all_cores(self):
        """The list of the CORES, the least ones first."""
        found = []
        for numbers in sets_of(self.everything):
            # What has a CORE in it clashes, but is none.
            if not any(_left(own, numbers) == () for own in found) and self.clash(numbers):
                found.append(numbers)
        return found

    def least_drop(self, among):
        """The least set of numbers among these without which the others do not clash; None if there is none."""
        for numbers in sets_of(among):
            if not self.clash(_left(self.everything, numbers)):
                return numbers
        return None


def clashing(registry, wish, begun, numbers):
    desk = Desk(registry, wish, begun)
    return desk.clash(checked_asks(wish, begun, numbers))


def core(registry, wish, begun):
    desk = Desk(registry, wish, begun)
    kept = desk.everything
    if not desk.clash(kept):
        raise NoPaper()
    for number in desk.everything[::-1]:
        rest = _left(kept, (number,))
        if desk.clash(rest):
            kept = rest
    return kept


def drop(registry, wish, begun):
    desk = Desk(registry, wish, begun)
    taken = ()
    for number in desk.everything:
        if not desk.clash(taken + (number,)):
            taken = taken + (number,)
    return _left(desk.everything, taken)


def cores(registry, wish, begun):
    return sorted(Desk(registry, wish, begun).all_cores())


def drops(registry, wish, begun):
    # DROPS are the least sets that have a number of each CORE.
    return least_meets(tuple(cores(registry, wish, begun)))


def blame(registry, wish, begun):
    found = Desk(registry, wish, begun).all_cores()
    if not found:
        raise NoPaper()
    return found[0]


def fewest_dropped(registry, wish, begun):
    desk = Desk(registry, wish, begun)
    return desk.least_drop(desk.everything)


def loosened(registry, wish, begun):
    desk = Desk(registry, wish, begun)
    found = desk.least_drop(desk.everything[len(desk.wish[0]):])
    if found is None:
        raise NoPaper()
    return found


def least_meets(sets):
    sets, found = in_tuples(sets), []
    for numbers in sets_of(as_set([number for own in sets for number in own])):
        # One that has another one in it has a number that can be left out.
        if not any(_left(own, numbers) == () for own in found):
            if all(_left(own, numbers) != own for own in sets):
                found.append(numbers)
    return sorted(found)


def core_paper(registry, wish, begun, numbers):
    desk = Desk(registry, wish, begun)
    numbers = checked_asks(wish, begun, numbers)
    refusal = desk.refusal_for(numbers)
    return numbers, refusal, tuple([desk.lock_for(_left(numbers, (number,))) for number in numbers])


def drop_paper(registry, wish, begun, numbers):
    desk = Desk(registry, wish, begun)
    numbers = checked_asks(wish, begun, numbers)
    lock = desk.lock_for(_left(desk.everything, numbers))
    return numbers, lock, tuple([desk.refusal_for(own) for own in _put_back(desk.everything, numbers)])


def _put_back(everything, numbers):
    """The list, for each of numbers, of the set of everything without the others of numbers."""
    return [_left(everything, _left(numbers, (number,))) for number in numbers]


def is_core_paper(registry, wish, begun, thing):
    if not is_tuple_of(thing, 3) or not are_asks(wish, begun, thing[0]):
        return False
    numbers, refusal, locks = thing
    if not is_tuple_of(locks, len(numbers)) or not is_turned_down(registry, wish, begun, numbers, refusal):
        return False
    rests = [_left(numbers, (number,)) for number in numbers]
    return all(is_answer(registry, wish, begun, rest, lock) for rest, lock in zip(rests, locks))


def is_drop_paper(registry, wish, begun, thing):
    if not is_tuple_of(thing, 3) or not are_asks(wish, begun, thing[0]):
        return False
    numbers, lock, refusals = thing
    everything = _numbers_of(wish, begun)
    if not is_tuple_of(refusals, len(numbers)):
        return False
    if not is_answer(registry, wish, begun, _left(everything, numbers), lock):
        return False
    rests = _put_back(everything, numbers)
    return all(is_turned_down(registry, wish, begun, rest, own) for rest, own in zip(rests, refusals))
