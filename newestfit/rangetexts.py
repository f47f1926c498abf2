"""Texts of RANGES: BOUNDS, ROWS of BOUNDS, and RANGE TEXTS."""

from itertools import combinations

from newestfit.errors import BadText, Unfit
from newestfit.ranges import EVERY
from newestfit.ranges import below, both_of, close_to, compatible, either_of, from_on, in_range
from newestfit.ranges import is_inside, just, parting_version, range_grains, range_of
from newestfit.shapes import in_tuples
from newestfit.versions import FIRST_VERSION, LEAST_FOURTH
from newestfit.versions import next_version, number_end, read_version, stands_at, version_ahead
from newestfit.versions import version_end, version_text

NOTHING = "none"
ANYTHING = "*"


def _bound_end(text, at):
    """The pair (end, whole): behind the signs from at on that begin a BOUND; if they are one."""
    if stands_at(text, at, ANYTHING):
        return at + 1, True
    if stands_at(text, at, "=^~"):
        return version_end(text, at + 1)
    if stands_at(text, at, "<>"):
        return version_end(text, at + 2 if stands_at(text, at + 1, "=") else at + 1)
    if stands_at(text, at, NOTHING[0]):
        return _nothing_end(text, at)
    return _numbered_end(text, at)


def _nothing_end(text, at):
    for k, sign in enumerate(NOTHING):
        if not stands_at(text, at + k, sign):
            return at + k, False
    return at + len(NOTHING), True


def _numbered_end(text, at):
    """As _bound_end, of a BOUND that begins with a number: a.*, a.b.* or v..w."""
    begun = at
    for _ in range(2):
        end = number_end(text, begun)
        if end == begun or not stands_at(text, end, "."):
            return end, False
        if stands_at(text, end + 1, ANYTHING):
            return end + 2, True
        begun = end + 1
    return _between_end(text, at)


def _between_end(text, at):
    end, whole = version_end(text, at)
    for _ in range(2):
        if not whole or not stands_at(text, end, "."):
            return end, False
        end += 1
    return version_end(text, end)


def _scanned(text):
    """The pair (rows, end): the BOUNDS, row by row, None if text is no RANGE TEXT; behind what begins one."""
    rows, row, at = [], [], 0
    while True:
        end, whole = _bound_end(text, at)
        if not whole:
            return None, end
        row.append(text[at:end])
        if end < len(text) and not stands_at(text, end, ",|"):
            return None, end
        if not stands_at(text, end, ","):
            rows.append(tuple(row))
            row = []
        if end == len(text):
            return tuple(rows), end
        at = end + 1


def is_bound(thing):
    return isinstance(thing, str) and _bound_end(thing, 0) == (len(thing), True)


def is_range_text(thing):
    return isinstance(thing, str) and _scanned(thing)[0] is not None


def bound_range(bound):
    end, whole = _bound_end(bound, 0)
    if not whole or end < len(bound):
        raise BadText(end)
    if bound == NOTHING:
        return ()
    if bound == ANYTHING:
        return EVERY
    if bound.endswith(ANYTHING):
        return _starred_range(bound)
    if ".." in bound:
        low, _, high = bound.partition("..")
        return range_of(((read_version(low), read_version(high)),))
    return _signed_range(bound)


def _starred_range(bound):
    numbers = [int(number) for number in bound.split(".")[:-1]]
    low = (numbers[0], 0, 0, LEAST_FOURTH)
    if len(numbers) == 1:
        return ((low, (numbers[0] + 1, 0, 0, LEAST_FOURTH)),)
    return close_to((numbers[0], numbers[1], 0, LEAST_FOURTH))


def _signed_range(bound):
    sign = bound[:2] if bound[1] == "=" else bound[0]
    version = read_version(bound[len(sign):])
    if sign == "=":
        return just(version)
    if sign == "^":
        return compatible(version)
    if sign == "~":
        return close_to(version)
    end = next_version(version) if sign in ("<=", ">") else version
    return below(end) if sign[0] == "<" else from_on(end)


def row_range(row):
    held = EVERY
    # One by one, so that the first that is no BOUND tells its place.
    for bound in row:
        held = both_of(held, bound_range(bound))
    return held


def bounds_in(text):
    rows, end = _scanned(text)
    if rows is None:
        raise BadText(end)
    return rows


def _row_ranges(text):
    return [row_range(row) for row in bounds_in(text)]


def _joined(spans):
    held = ()
    for span in spans:
        held = either_of(held, span)
    return held


def read_range(text):
    return _joined(_row_ranges(text))


def bounds_for(span):
    if len(span) != 1:
        raise Unfit()
    pair = in_tuples(span[0])
    texts = _bounds_up(pair) if pair[1] is None else _bounds_between(pair)
    # As pairs with their lengths ahead they sort as they ought to be listed.
    rows = sorted([(len(text), text) for text in texts])
    return tuple([row[1] for row in rows])


def _bounds_up(pair):
    """All BOUNDS that hold just what is not older than the low of a pair without an end."""
    low = pair[0]
    texts = [f">={version_text(low)}"]
    if low == FIRST_VERSION:
        texts.append(ANYTHING)
    if version_ahead(low) is not None:
        texts.append(f">{version_text(version_ahead(low))}")
    return texts


def _bounds_between(pair):
    """All BOUNDS that hold just the VERSIONS of a pair with an end."""
    low, high = pair
    one = version_text(low)
    texts = [f"{one}..{version_text(high)}"]
    for sign, span in (("=", just(low)), ("^", compatible(low)), ("~", close_to(low))):
        if span == (pair,):
            texts.append(f"{sign}{one}")
    if low == FIRST_VERSION:
        texts.append(f"<{version_text(high)}")
        if version_ahead(high) is not None:
            texts.append(f"<={version_text(version_ahead(high))}")
    for text in (f"{low[0]}.*", f"{low[0]}.{low[1]}.*"):
        if _starred_range(text) == (pair,):
            texts.append(text)
    return texts


def range_text(span):
    if not span:
        return NOTHING
    return "|".join([bounds_for((pair,))[0] for pair in span])


def rewritten(text):
    return range_text(read_range(text))


def tell_alike(one, other):
    return read_range(one) == read_range(other)


def parted_at(one, other):
    span = read_range(one)
    return parting_version(span, read_range(other))


def rows_holding(text, version):
    return tuple([k for k, span in enumerate(_row_ranges(text)) if in_range(span, version)])


def idle_rows(text):
    spans = _row_ranges(text)
    if len(spans) == 1:
        return ()
    return tuple([k for k, span in enumerate(spans) if is_inside(span, _joined(spans[:k] + spans[k + 1:]))])


def fewest_rows(text):
    spans = _row_ranges(text)
    held = [grain[2] for grain in range_grains(spans) if grain[2]]
    # Combinations come in the order in which the least of one length is the first.
    for many in range(1, len(spans)):
        for chosen in combinations(range(len(spans)), many):
            if _reaches_all(chosen, held):
                return chosen
    return tuple(range(len(spans)))


def _reaches_all(chosen, held):
    """Whether each set of held has a number that is chosen."""
    for numbers in held:
        if not any(k in chosen for k in numbers):
            return False
    return True
