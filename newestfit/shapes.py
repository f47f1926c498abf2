"""What numbers, tuples and sets are, and how lists are made into tuples."""

from itertools import combinations


def is_number(thing):
    return isinstance(thing, int) and not isinstance(thing, bool)


def is_tuple_of(thing, many):
    """Whether thing is a tuple of so many things."""
    return isinstance(thing, tuple) and len(thing) == many


def is_ascending(rows):
    """Whether each of rows is above the one ahead of it."""
    return all(rows[k - 1] < rows[k] for k in range(1, len(rows)))


def in_tuples(value):
    """The same value, with a tuple for each list in it, at any depth."""
    if not isinstance(value, (list, tuple)):
        return value
    found = []
    for own in value:
        # Most of what is handed in is numbers and strings: no call for these.
        found.append(in_tuples(own) if isinstance(own, (list, tuple)) else own)
    return tuple(found)


def as_set(rows):
    """The set, an ascending tuple, of these rows."""
    return tuple(sorted(set(rows)))


def sets_of(members):
    """The list of all sets of these, which are a set, the least ones first: by how many, then by comparison."""
    rows = list(members)
    return [own for many in range(len(rows) + 1) for own in combinations(rows, many)]
