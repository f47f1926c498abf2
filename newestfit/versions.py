"""VERSIONS: their texts, their order, and the steps from one to the next."""

from newestfit.errors import BadText
from newestfit.shapes import as_set, in_tuples, is_number, is_tuple_of

LETTERS = "abcdefghijklmnopqrstuvwxyz"
LONGEST_NAME = 12
DIGITS = "0123456789"
LEAST_FOURTH = -9
# So many VERSIONS have the first three numbers alike.
ALIKE = 10
FIRST_VERSION = (0, 0, 0, -9)


def is_name(thing):
    if not isinstance(thing, str) or thing == "" or len(thing) > LONGEST_NAME:
        return False
    return all(sign in LETTERS for sign in thing)


def is_version(thing):
    if not is_tuple_of(thing, 4) or not all(is_number(part) for part in thing):
        return False
    return min(thing[:3]) >= 0 and LEAST_FOURTH <= thing[3] <= 0


def version_text(version):
    a, b, c, d = version
    text = f"{a}.{b}.{c}"
    return text if d == 0 else f"{text}-{-d}"


def stands_at(text, at, signs):
    """Whether the sign of text at this place is one of signs."""
    return at < len(text) and text[at] in signs


def number_end(text, at):
    """The place behind the number that begins at this place; at if none does."""
    if stands_at(text, at, "0"):
        return at + 1
    end = at
    while stands_at(text, end, DIGITS):
        end += 1
    return end


def version_end(text, at):
    """The pair (end, whole): behind the signs from at on that begin a VERSION's text; if they are one."""
    end = at
    for lead in ("", ".", "."):
        if lead != "" and not stands_at(text, end, lead):
            return end, False
        begun = end + len(lead)
        end = number_end(text, begun)
        if end == begun:
            return end, False
    if not stands_at(text, end, "-"):
        return end, True
    if not stands_at(text, end + 1, "123456789"):
        return end + 1, False
    return end + 2, True


def read_version(text):
    end, whole = version_end(text, 0)
    if not whole or end < len(text):
        raise BadText(end)
    numbers, _, below = text.partition("-")
    a, b, c = map(int, numbers.split("."))
    return (a, b, c, 0 if below == "" else -int(below))


def is_early(version):
    return version[3] < 0


def released(version):
    return (version[0], version[1], version[2], 0)


def compared(one, other):
    one, other = in_tuples(one), in_tuples(other)
    if one == other:
        return 0
    return -1 if one < other else 1


def first_unlike(one, other):
    for place in range(4):
        if one[place] != other[place]:
            return place
    return None


def next_version(version):
    a, b, c, d = version
    return (a, b, c, d + 1) if d < 0 else (a, b, c + 1, LEAST_FOURTH)


def version_ahead(version):
    return steps_on(version, -1)


def _steps_from_least(version):
    """How many steps lead to version from the least one with its first two numbers."""
    return version[2] * ALIKE + version[3] - LEAST_FOURTH


def steps_on(version, many):
    third, fourth = divmod(_steps_from_least(version) + many, ALIKE)
    if third < 0:
        return None
    return (version[0], version[1], third, fourth + LEAST_FOURTH)


def steps_between(one, other):
    if one[0] != other[0] or one[1] != other[1]:
        return None
    return _steps_from_least(other) - _steps_from_least(one)


def next_release(version, place):
    a, b, c, _ = version
    if place == 0:
        return (a + 1, 0, 0, 0)
    if place == 1:
        return (a, b + 1, 0, 0)
    return (a, b, c + 1, 0)


def newest_of(versions, early):
    fitting = [version for version in in_tuples(versions) if early or not is_early(version)]
    return max(fitting, default=None)


def from_best(versions):
    return tuple(sorted(as_set(in_tuples(versions)), reverse=True))
