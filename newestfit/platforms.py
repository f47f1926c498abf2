"""Platforms: what fits by several WORDS, one LOCK for all of them, as few LOCKS as can be."""

from itertools import combinations

from newestfit.errors import NoPaper
from newestfit.locks import fits, is_lock
from newestfit.marks import ALWAYS, NEVER, hangs_on, holds, is_words, names_of
from newestfit.releases import part_needs, parts_with_self
from newestfit.shapes import as_set, in_tuples, is_ascending, sets_of
from newestfit.solve import searched


def is_family(thing):
    if not isinstance(thing, tuple) or thing == () or not all(is_words(words) for words in thing):
        return False
    return is_ascending(thing)


def words_by(surely, maybe):
    surely = in_tuples(surely)
    return as_set([as_set(surely + more) for more in sets_of(maybe)])


def _needs_placed(registry, wish):
    """The list of the pairs (place, NEED) of all NEEDS of both."""
    rows = [(("", (), "", k), need) for k, need in enumerate(wish[0])]
    for release in in_tuples(registry):
        for part in parts_with_self(release):
            needs = part_needs(release, part)
            rows.extend([((release[0], release[1], part, k), need) for k, need in enumerate(needs)])
    return rows


def _marks_told(registry, wish):
    return [need[3] for _, need in _needs_placed(registry, wish)]


def words_told(registry, wish):
    return as_set([name for mark in _marks_told(registry, wish) for name in names_of(mark)])


def idle_words(registry, wish):
    hanging = [name for mark in _marks_told(registry, wish) for name in hangs_on(mark)]
    return tuple([name for name in words_told(registry, wish) if name not in hanging])


def needs_counting(registry, wish, words):
    return as_set([place for place, need in _needs_placed(registry, wish) if holds(need[3], words)])


def kinds(registry, wish, family):
    alike = {}
    for words in in_tuples(family):
        alike.setdefault(needs_counting(registry, wish, words), []).append(words)
    return as_set([tuple(rows) for rows in alike.values()])


def _by_words(wish, words):
    return in_tuples((wish[0], words, wish[2]))


def lock_table(registry, wish, family):
    return tuple([searched(registry, _by_words(wish, words), ())[0] for words in family])


def refused_words(registry, wish, family):
    table = lock_table(registry, wish, family)
    return tuple([words for words, lock in zip(in_tuples(family), table) if lock is None])


def fitting_words(registry, wish, family, lock):
    return tuple([words for words in in_tuples(family) if fits(registry, _by_words(wish, words), lock)])


def parting_platforms(registry, wish, family):
    table, family = lock_table(registry, wish, family), in_tuples(family)
    for k, one in enumerate(family):
        for at in range(k + 1, len(family)):
            if table[at] != table[k]:
                return one, family[at]
    raise NoPaper()


def _for_all_needs(needs, family):
    """The same NEEDS with MARKS that hold always if theirs do by some WORDS of family, else never."""
    found = []
    for name, span, parts, mark in needs:
        counts = any(holds(mark, words) for words in family)
        found.append((name, span, parts, ALWAYS if counts else NEVER))
    return tuple(found)


def for_all(registry, wish, family):
    rows = []
    for name, version, needs, parts, clashes, pulled in in_tuples(registry):
        inner = tuple([(part, _for_all_needs(own, family)) for part, own in parts])
        rows.append((name, version, _for_all_needs(needs, family), inner, clashes, pulled))
    wish = in_tuples(wish)
    return tuple(rows), (_for_all_needs(wish[0], family), (), wish[2])


def one_search(registry, wish, family):
    """The pair (lock, refusal), one of them None: the best LOCK of the pair of for_all, or a REFUSAL of LINE
    () of it. TooMany() first of all, as both have as many LOCKS of open VERSIONS."""
    wide, wanted = for_all(registry, wish, family)
    return searched(wide, wanted, ())


def one_lock(registry, wish, family):
    lock, _ = one_search(registry, wish, family)
    if lock is None:
        raise NoPaper()
    return lock


def one_refusal(registry, wish, family):
    _, refusal = one_search(registry, wish, family)
    if refusal is None:
        raise NoPaper()
    return refusal


def _choices(registry, wish, family):
    """The list of the pairs (words, lock): sets, as great as can be, of WORDS of family by all of which one
    LOCK fits, and such a LOCK."""
    found = []
    for own in sets_of(family)[:0:-1]:
        if not any(all(words in more for words in own) for more, _ in found):
            lock, _ = one_search(registry, wish, own)
            if lock is not None:
                found.append((own, lock))
    return found


def few_locks(registry, wish, family):
    choices = _choices(registry, wish, family)
    # No more than one LOCK for each WORDS is wanted.
    for many in range(1, len(family) + 1):
        for chosen in combinations(choices, many):
            reached = [words for own, _ in chosen for words in own]
            if all(words in reached for words in family):
                return tuple([lock for _, lock in chosen])
    raise NoPaper()


def are_locks_for(registry, wish, family, thing):
    if not isinstance(thing, tuple) or not all(is_lock(lock) for lock in thing):
        return False
    reached = [words for lock in thing for words in fitting_words(registry, wish, family, lock)]
    return all(words in reached for words in in_tuples(family))
