"""RANGES: what they hold, how they are put together and parted."""

from newestfit.errors import NoPaper
from newestfit.shapes import as_set, in_tuples, is_tuple_of
from newestfit.versions import FIRST_VERSION, LEAST_FOURTH
from newestfit.versions import is_version, next_version, released, steps_between, version_ahead

EVERY = (((0, 0, 0, -9), None),)


def is_range(thing):
    if not isinstance(thing, tuple):
        return False
    for k, pair in enumerate(thing):
        if not _is_pair(pair, k + 1 == len(thing)):
            return False
        if k > 0 and not thing[k - 1][1] < pair[0]:
            return False
    return True


def _is_pair(thing, is_last):
    """Whether thing is a pair of a RANGE; only in the last one high may be None."""
    if not is_tuple_of(thing, 2) or not is_version(thing[0]):
        return False
    if thing[1] is None:
        return is_last
    return is_version(thing[1]) and thing[0] < thing[1]


def _is_under(version, high):
    """Whether version is below high, None being above all."""
    return high is None or version < high


def _sooner(one, other):
    """The lesser of two highs."""
    if one is None or other is None:
        return other if one is None else one
    return min(one, other)


def _later(one, other):
    """The greater of two highs."""
    return None if one is None or other is None else max(one, other)


def range_of(pairs):
    holding = [(low, high) for low, high in in_tuples(pairs) if _is_under(low, high)]
    joined = []
    for low, high in sorted(holding, key=lambda pair: pair[0]):
        # Pairs that only touch are one, too: no RANGE has a low at the high ahead.
        if joined and (low == joined[-1][1] or _is_under(low, joined[-1][1])):
            joined[-1] = (joined[-1][0], _later(joined[-1][1], high))
        else:
            joined.append((low, high))
    return tuple(joined)


def in_range(span, version):
    version = in_tuples(version)
    return any(low <= version and _is_under(version, high) for low, high in in_tuples(span))


def just(version):
    return ((in_tuples(version), next_version(version)),)


def from_on(version):
    return ((in_tuples(version), None),)


def below(version):
    return range_of(((FIRST_VERSION, version),))


def compatible(version):
    a, b, c, _ = version
    if a > 0:
        high = (a + 1, 0, 0, LEAST_FOURTH)
    elif b > 0:
        high = (0, b + 1, 0, LEAST_FOURTH)
    else:
        high = (0, 0, c + 1, LEAST_FOURTH)
    return ((in_tuples(version), high),)


def close_to(version):
    return ((in_tuples(version), (version[0], version[1] + 1, 0, LEAST_FOURTH)),)


def both_of(one, other):
    one, other = in_tuples(one), in_tuples(other)
    return range_of([(max(low, start), _sooner(high, end)) for low, high in one for start, end in other])


def either_of(one, other):
    return range_of(in_tuples(one) + in_tuples(other))


def all_but(span):
    gaps, start = [], FIRST_VERSION
    for low, high in span:
        gaps.append((start, low))
        start = high
    if start is not None:
        gaps.append((start, None))
    return range_of(gaps)


def taken_out(one, other):
    return both_of(one, all_but(other))


def is_inside(one, other):
    return taken_out(one, other) == ()


def are_apart(one, other):
    return both_of(one, other) == ()


def parting_version(one, other):
    parting = either_of(taken_out(one, other), taken_out(other, one))
    return least_in(parting) if parting else None


def range_cuts(spans):
    ends = [end for span in in_tuples(spans) for pair in span for end in pair if end is not None]
    return list(as_set([FIRST_VERSION] + ends))


def _holding(spans, version):
    """The set of the numbers of those of spans that hold version."""
    return tuple([k for k, span in enumerate(spans) if in_range(span, version)])


def range_grains(spans):
    cuts = range_cuts(spans)
    # At each cut but the first some RANGE begins or ends, so neighbours have unlike numbers.
    return [(low, high, _holding(spans, low)) for low, high in zip(cuts, cuts[1:] + [None])]


def by_rows(spans, rows):
    wanted = in_tuples(rows)
    return range_of([(low, high) for low, high, numbers in range_grains(spans) if numbers in wanted])


def least_in(span):
    if not span:
        raise NoPaper()
    return in_tuples(span[0][0])


def newest_in(span):
    if not span or span[-1][1] is None:
        return None
    # Below a high with nothing just ahead of it there is always a newer VERSION.
    return version_ahead(span[-1][1])


def next_in(span, version):
    version = in_tuples(version)
    for low, high in in_tuples(span):
        if _is_under(version, high):
            return max(low, version)
    return None


def least_release_in(span):
    for low, high in in_tuples(span):
        if _is_under(released(low), high):
            return released(low)
    return None


def many_in(span):
    many = 0
    for low, high in span:
        steps = None if high is None else steps_between(low, high)
        if steps is None:
            return None
        many += steps
    return many


def of_range(span, versions):
    return as_set([version for version in in_tuples(versions) if in_range(span, version)])


def shortened(span, versions):
    pairs, low = [], None
    for version in as_set(in_tuples(versions)):
        held = in_range(span, version)
        if held and low is None:
            low = version
        elif low is not None and not held:
            pairs.append((low, version))
            low = None
    if low is not None:
        pairs.append((low, None))
    return tuple(pairs)
