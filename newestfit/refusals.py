"""REFUSALS: what they refuse, what they rest on, and ROWS that tell them."""

from newestfit.errors import TooMany, Unfit
from newestfit.grids import Grid, has_bits
from newestfit.items import is_item
from newestfit.lines import has_leaf_form, is_leaf_of, line_of_leaf
from newestfit.shapes import as_set, in_tuples, is_number, is_tuple_of

MOST_JOINS = 1000
DEEPEST = 200


def _rows_telling(refusals):
    """The pair (rows, numbers): rows as ROWS that tell each unlike REFUSAL in these once; the numbers of
    the rows that tell these."""
    # Without recursion, as REFUSALS may be deep; like ones get one number, as keys should not be.
    rows, places, numbers = [], {}, []
    waiting = [(refusal, False) for refusal in reversed(refusals)]
    while waiting:
        own, is_told = waiting.pop()
        if own[0] == "join" and not is_told:
            waiting.extend([(own, True), (own[3], False), (own[2], False)])
            continue
        if own[0] == "leaf":
            row = ("leaf", in_tuples(own[1]))
        else:
            far = numbers.pop()
            row = ("join", in_tuples(own[1]), numbers.pop(), far)
        if row not in places:
            places[row] = len(rows)
            rows.append(row)
        numbers.append(places[row])
    return rows, numbers


def _rows_told(refusal):
    return _rows_telling([refusal])[0]


def _bits_told(registry, wish, rows):
    """The pair (grid, told): a Grid for the LINES of rows, and the list of their bits; Unfit() if some
    leaf is no LEAF of these."""
    registry, wish = in_tuples(registry), in_tuples(wish)
    lines = {row[1]: line_of_leaf(registry, wish, row[1]) for row in rows if row[0] == "leaf"}
    grid, told = Grid(list(lines.values())), []
    for row in rows:
        if row[0] == "leaf":
            told.append(grid.line_bits(lines[row[1]]))
        else:
            told.append(grid.joined(row[1], told[row[2]], told[row[3]]))
    return grid, told


def _refusals_by_rows(rows):
    """The list of the REFUSALS that rows tell, row by row."""
    found = []
    for row in rows:
        if row[0] == "leaf":
            found.append(row)
        else:
            found.append(("join", row[1], found[row[2]], found[row[3]]))
    return found


def _refusal_in_tuples(refusal):
    return _refusals_by_rows(_rows_told(refusal))[-1]


def _are_refusals(registry, wish, things):
    """Whether each of things is a REFUSAL of LEAVES of these."""
    leaves_there, waiting = {}, list(things)
    while waiting:
        own = waiting.pop()
        if is_tuple_of(own, 2) and own[0] == "leaf" and has_leaf_form(own[1]):
            leaves_there[own[1]] = True
        elif is_tuple_of(own, 4) and own[0] == "join" and is_item(own[1]):
            waiting.extend([own[2], own[3]])
        else:
            return False
    registry, wish = in_tuples(registry), in_tuples(wish)
    return all(is_leaf_of(registry, wish, own) for own in leaves_there)


def is_refusal(registry, wish, thing):
    return _are_refusals(registry, wish, (thing,))


def refuse_all(registry, wish, beginnings, thing):
    """Whether thing is a tuple of REFUSALS, one for each of beginnings, whose LINE this one meets."""
    if not is_tuple_of(thing, len(beginnings)) or not _are_refusals(registry, wish, thing):
        return False
    rows, numbers = _rows_telling(thing)
    grid, told = _bits_told(registry, wish, rows)
    return all(has_bits(told[number], grid.begun_bits(own)) for number, own in zip(numbers, beginnings))


def refuses(registry, wish, thing):
    # () is met by the empty BEGINNING alone.
    return refuse_all(registry, wish, ((),), (thing,))


def refuses_beginning(registry, wish, beginning, thing):
    return refuse_all(registry, wish, (beginning,), (thing,))


def refusal_line(registry, wish, refusal):
    grid, told = _bits_told(registry, wish, _rows_told(refusal))
    return grid.line_told(told[-1])


def leaf_reached(registry, wish, refusal, lock):
    rows = _rows_told(refusal)
    grid, told = _bits_told(registry, wish, rows)
    met, number = grid.lock_bits(lock), len(rows) - 1
    if not has_bits(told[number], met):
        raise Unfit()
    while rows[number][0] == "join":
        _, _, near, far = rows[number]
        number = near if has_bits(told[near], met) else far
    return rows[number][1]


def leaves_used(refusal):
    return tuple([row[1] for row in _rows_told(refusal) if row[0] == "leaf"])


def needs_used(refusal):
    return as_set([own[1] for own in leaves_used(refusal) if own[0] == "wish"])


def releases_used(refusal):
    found = []
    for own in leaves_used(refusal):
        if own[0] in ("need", "part"):
            found.append((own[1][0], own[2]))
        elif own[0] == "clash":
            found.append((own[1], own[2]))
    return as_set(found)


def _sizes(rows):
    """The list of the pairs, row by row: how many joins its REFUSAL has, and how many lie within one
    another."""
    found = []
    for row in rows:
        if row[0] == "leaf":
            found.append((0, 0))
        else:
            near, far = found[row[2]], found[row[3]]
            found.append((near[0] + far[0] + 1, max(near[1], far[1]) + 1))
    return found


def joins_in(refusal):
    return _sizes(_rows_told(refusal))[-1][0]


def items_joined(refusal):
    return as_set([row[1] for row in _rows_told(refusal) if row[0] == "join"])


def joined_all(item, refusals):
    if not refusals:
        raise Unfit()
    item, own = in_tuples(item), [_refusal_in_tuples(refusal) for refusal in refusals]
    joined = own[0]
    for refusal in own[1:]:
        joined = ("join", item, joined, refusal)
    return joined


def trimmed(registry, wish, refusal):
    rows = _rows_told(refusal)
    grid, told = _bits_told(registry, wish, rows)
    # Row by row the pair of the trimmed REFUSAL and of the bits of its LINE.
    found = []
    for row, bits in zip(rows, told):
        if row[0] == "leaf":
            found.append((row, bits))
            continue
        near, far = found[row[2]], found[row[3]]
        if not grid.has_term(near[1], row[1]):
            found.append(near)
        elif not grid.has_term(far[1], row[1]):
            found.append(far)
        else:
            joined = ("join", row[1], near[0], far[0])
            found.append((joined, grid.joined(row[1], near[1], far[1])))
    return found[-1][0]


def rows_of(refusal):
    return tuple(_rows_told(refusal))


def _is_row(thing, ahead):
    """Whether thing is a row of ROWS with so many rows ahead of it."""
    if is_tuple_of(thing, 2) and thing[0] == "leaf":
        return has_leaf_form(thing[1])
    if not is_tuple_of(thing, 4) or thing[0] != "join" or not is_item(thing[1]):
        return False
    return all(is_number(number) and 0 <= number < ahead for number in thing[2:])


def is_rows(thing):
    return isinstance(thing, tuple) and thing != () and all(_is_row(row, k) for k, row in enumerate(thing))


def of_rows(rows):
    rows = in_tuples(rows)
    joins, deep = _sizes(rows)[-1]
    if joins > MOST_JOINS or deep > DEEPEST:
        raise TooMany()
    return _refusals_by_rows(rows)[-1]


def lines_by_rows(registry, wish, rows):
    grid, told = _bits_told(registry, wish, in_tuples(rows))
    return [grid.line_told(bits) for bits in told]
