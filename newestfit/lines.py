"""TERMS and LINES: what they say of LOCKS; the LEAVES of a REGISTRY and a WISH."""

from newestfit.errors import NoPaper, Unfit
from newestfit.items import is_item, items_told
from newestfit.locks import is_lock
from newestfit.marks import holds
from newestfit.ranges import EVERY
from newestfit.ranges import all_but, both_of, either_of, in_range, is_inside, is_range, just, least_in, range_of
from newestfit.releases import is_release_open, open_for, open_release, part_needs, parts_with_self
from newestfit.shapes import in_tuples, is_ascending, is_number, is_tuple_of
from newestfit.versions import is_name, is_version


def is_term(thing):
    return is_tuple_of(thing, 3) and is_item(thing[0]) and isinstance(thing[1], bool) and is_range(thing[2])


def _holds_always(term):
    return term[1] and term[2] == EVERY


def is_line(thing):
    if not isinstance(thing, tuple) or not all(is_term(term) and not _holds_always(term) for term in thing):
        return False
    return is_ascending([term[0] for term in thing])


def is_beginning(thing):
    if not isinstance(thing, tuple) or not all(is_tuple_of(pair, 2) for pair in thing):
        return False
    if not all(is_item(item) and (state is None or is_version(state)) for item, state in thing):
        return False
    return is_ascending([pair[0] for pair in thing])


def term_holds(term, state):
    return term[1] if state is None else in_range(term[2], state)


def _of_one_item(one, other):
    """Both as tuples; Unfit() if their ITEMS are unlike."""
    one, other = in_tuples(one), in_tuples(other)
    if one[0] != other[0]:
        raise Unfit()
    return one, other


def term_both(one, other):
    one, other = _of_one_item(one, other)
    return (one[0], one[1] and other[1], both_of(one[2], other[2]))


def term_either(one, other):
    one, other = _of_one_item(one, other)
    return (one[0], one[1] or other[1], either_of(one[2], other[2]))


def term_not(term):
    return (in_tuples(term[0]), not term[1], all_but(term[2]))


def term_inside(one, other):
    one, other = _of_one_item(one, other)
    return (other[1] or not one[1]) and is_inside(one[2], other[2])


def _line_by_items(terms):
    """The LINE of TERMS, given as a dict of them by their ITEMS."""
    return tuple([terms[item] for item in sorted(terms) if not _holds_always(terms[item])])


def line_of(terms):
    found = {}
    for term in in_tuples(terms):
        found[term[0]] = term_both(found[term[0]], term) if term[0] in found else term
    return _line_by_items(found)


def term_at(line, item):
    item = in_tuples(item)
    for term in in_tuples(line):
        if term[0] == item:
            return term
    return (item, True, EVERY)


def line_met(line, lock):
    there = {item: version for item, version in in_tuples(lock)}
    return all(term_holds(term, there.get(term[0], None)) for term in in_tuples(line))


def line_begun(line, beginning):
    told = {item: state for item, state in in_tuples(beginning)}
    return all(term[0] in told and term_holds(term, told[term[0]]) for term in in_tuples(line))


def lines_joined(item, near, far):
    near, far, item = in_tuples(near), in_tuples(far), in_tuples(item)
    found = {term[0]: term_both(term_at(near, term[0]), term_at(far, term[0])) for term in near + far}
    found[item] = term_either(term_at(near, item), term_at(far, item))
    return _line_by_items(found)


def _holds_never(term):
    return not term[1] and term[2] == ()


def _parting_items(one, other):
    """The list of the ITEMS of other at which a LOCK that meets one need not hold; [] if nothing meets one."""
    if any(_holds_never(term) for term in one):
        return []
    return [term[0] for term in other if not term_inside(term_at(one, term[0]), term)]


def line_inside(one, other):
    return not _parting_items(in_tuples(one), in_tuples(other))


def _some_state(term):
    """A STATE for which term holds."""
    return None if term[1] else least_in(term[2])


def parting_lock(one, other):
    one, other = in_tuples(one), in_tuples(other)
    items = _parting_items(one, other)
    if not items:
        raise NoPaper()
    found = {term[0]: term for term in one}
    found[items[0]] = term_both(term_at(one, items[0]), term_not(term_at(other, items[0])))
    rows = [(item, _some_state(found[item])) for item in sorted(found)]
    return tuple([pair for pair in rows if pair[1] is not None])


def is_parting_lock(one, other, thing):
    return is_lock(thing) and line_met(one, thing) and not line_met(other, thing)


def _is_place(thing):
    return is_number(thing) and thing >= 0


def _is_part(thing):
    return thing == "" or is_name(thing)


def has_leaf_form(thing):
    """Whether thing could be a LEAF of some REGISTRY and WISH."""
    if not isinstance(thing, tuple) or len(thing) < 3:
        return False
    kind, rest = thing[0], thing[1:]
    if kind == "wish":
        return len(rest) == 2 and _is_place(rest[0]) and _is_part(rest[1])
    if kind == "clash":
        return len(rest) == 3 and is_name(rest[0]) and is_version(rest[1]) and _is_place(rest[2])
    if not is_item(rest[0]):
        return False
    if kind == "none":
        return len(rest) == 2 and is_range(rest[1])
    if kind == "part":
        return len(rest) == 2 and rest[0][1] != "" and is_version(rest[1])
    return (kind == "need" and len(rest) == 4 and is_version(rest[1]) and _is_place(rest[2])
            and _is_part(rest[3]))


def _lacks(needs, words, k, part):
    """The TERM that holds if need k lacks this part of its targets; None if it does not ask so."""
    if k >= len(needs) or not holds(needs[k][3], words):
        return None
    name, span, parts, _ = needs[k]
    if part == "":
        return ((name, ""), True, all_but(span))
    return ((name, part), True, ()) if part in parts else None


def _need_terms(registry, wish, leaf):
    _, item, version, k, part = leaf
    release = open_release(registry, wish[2], item, version)
    if release is None:
        return None
    term = _lacks(part_needs(release, item[1]), wish[1], k, part)
    return None if term is None else [(item, False, just(version)), term]


def _clash_terms(registry, wish, leaf):
    _, name, version, k = leaf
    release = open_release(registry, wish[2], (name, ""), version)
    if release is None or k >= len(release[4]):
        return None
    other, span = release[4][k]
    return [((name, ""), False, just(version)), ((other, ""), False, span)]


def _leaf_terms(registry, wish, leaf):
    """The list of the TERMS of a LEAF, None if there is none such; leaf has the form of one."""
    kind = leaf[0]
    if kind == "need":
        return _need_terms(registry, wish, leaf)
    if kind == "clash":
        return _clash_terms(registry, wish, leaf)
    if kind == "wish":
        term = _lacks(wish[0], wish[1], leaf[1], leaf[2])
        return None if term is None else [term]
    if kind == "none":
        versions = open_for(registry, wish[2], leaf[1])
        return None if any(in_range(leaf[2], version) for version in versions) else [(leaf[1], False, leaf[2])]
    item, version = leaf[1:]
    if open_release(registry, wish[2], item, version) is None:
        return None
    return [(item, False, just(version)), ((item[0], ""), True, all_but(just(version)))]


def is_leaf_of(registry, wish, leaf):
    """Whether leaf, of the form of a LEAF, is one; registry and wish are made of tuples."""
    return _leaf_terms(registry, wish, leaf) is not None


def is_leaf(registry, wish, thing):
    return has_leaf_form(thing) and is_leaf_of(in_tuples(registry), in_tuples(wish), thing)


def line_of_leaf(registry, wish, leaf):
    """The LINE of leaf; Unfit() if it is no LEAF. All that is handed in is made of tuples."""
    terms = _leaf_terms(registry, wish, leaf) if has_leaf_form(leaf) else None
    if terms is None:
        raise Unfit()
    return line_of(terms)


def leaf_line(registry, wish, leaf):
    return line_of_leaf(in_tuples(registry), in_tuples(wish), in_tuples(leaf))


def _asked_rows(needs, words):
    """The list of the pairs (k, part) for which those NEEDS that count ask."""
    counted = [(k, need) for k, need in enumerate(needs) if holds(need[3], words)]
    return [(k, part) for k, need in counted for part in ("",) + need[2]]


def _need_leaves(wish, release):
    name, version = release[:2]
    found = []
    for part in parts_with_self(release):
        rows = _asked_rows(part_needs(release, part), wish[1])
        found.extend([("need", (name, part), version, k, asked) for k, asked in rows])
    return found


def shut_leaf(registry, early, item):
    """The LEAF "none" of item with the RANGE of all VERSIONS that are not open for it."""
    pairs = [pair for version in open_for(registry, early, item) for pair in just(version)]
    return ("none", item, all_but(range_of(pairs)))


def leaves(registry, wish):
    return leaves_told(in_tuples(registry), in_tuples(wish))


def leaves_told(registry, wish):
    """The list of the LEAVES; registry and wish are made of tuples."""
    found = [("wish", k, part) for k, part in _asked_rows(wish[0], wish[1])]
    opened = [release for release in registry if is_release_open(release, wish[2], "")]
    for release in opened:
        found.extend(_need_leaves(wish, release))
    for name, version, _, parts, _, _ in opened:
        found.extend([("part", (name, part), version) for part, _ in parts])
    found.extend([shut_leaf(registry, wish[2], item) for item in items_told(registry, wish)])
    for name, version, _, _, clashes, _ in opened:
        found.extend([("clash", name, version, k) for k in range(len(clashes))])
    return found


def met_leaves(registry, wish, lock):
    registry, wish, lock = in_tuples(registry), in_tuples(wish), in_tuples(lock)
    return [leaf for leaf in leaves_told(registry, wish) if line_met(line_of_leaf(registry, wish, leaf), lock)]
