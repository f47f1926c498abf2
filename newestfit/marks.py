"""MARKS: on which WORDS they hold, their plain form, and their texts."""

from newestfit.errors import BadText
from newestfit.shapes import as_set, is_ascending, is_tuple_of, sets_of
from newestfit.versions import LETTERS, LONGEST_NAME, is_name, stands_at

ALWAYS = ("all", ())
NEVER = ("any", ())
# For each sign that opens MARKS: what stands between them, what closes them, their word.
BRACKETS = {"(": ("&", ")", "all"), "[": ("|", "]", "any")}

# A tree is True, False, or (name, yes, no): unlike trees for WORDS with and without name, of later
# NAMES alone. So MARKS that hold on the same WORDS have one tree, and each NAME in it matters.


def is_words(thing):
    return isinstance(thing, tuple) and all(is_name(name) for name in thing) and is_ascending(thing)


def is_mark(thing):
    waiting = [thing]
    while waiting:
        mark = waiting.pop()
        if not is_tuple_of(mark, 2):
            return False
        word, inner = mark
        if word == "not":
            waiting.append(inner)
        elif word in ("all", "any") and isinstance(inner, tuple):
            waiting.extend(inner)
        elif word != "on" or not is_name(inner):
            return False
    return True


def is_mark_text(thing):
    return isinstance(thing, str) and _scanned(thing)[0] is not None


def holds(mark, words):
    word, inner = mark
    if word == "on":
        return inner in words
    if word == "not":
        return not holds(inner, words)
    for own in inner:
        if holds(own, words) == (word == "any"):
            return word == "any"
    return word == "all"


def names_of(mark):
    names, waiting = [], [mark]
    while waiting:
        word, inner = waiting.pop()
        if word == "on":
            names.append(inner)
        elif word == "not":
            waiting.append(inner)
        else:
            waiting.extend(inner)
    return as_set(names)


def hangs_on(mark):
    return names_of(plain_mark(mark))


def _branch(name, yes, no):
    return yes if yes == no else (name, yes, no)


def _side(tree, name, there):
    """What is left of tree on WORDS with name, without it; it has no NAME ahead of name."""
    if isinstance(tree, bool) or tree[0] != name:
        return tree
    return tree[1] if there else tree[2]


def _tree_not(tree):
    if isinstance(tree, bool):
        return not tree
    return (tree[0], _tree_not(tree[1]), _tree_not(tree[2]))


def _tree_both(one, other):
    if one is False or other is False:
        return False
    if one is True:
        return other
    if other is True:
        return one
    name = min(one[0], other[0])
    yes = _tree_both(_side(one, name, True), _side(other, name, True))
    return _branch(name, yes, _tree_both(_side(one, name, False), _side(other, name, False)))


def _tree_either(one, other):
    return _tree_not(_tree_both(_tree_not(one), _tree_not(other)))


def _tree_of(mark):
    word, inner = mark
    if word == "on":
        return (inner, True, False)
    if word == "not":
        return _tree_not(_tree_of(inner))
    tree = word == "all"
    for own in inner:
        tree = _tree_both(tree, _tree_of(own)) if word == "all" else _tree_either(tree, _tree_of(own))
    return tree


def _tree_with(tree, name, there):
    """The tree of what tree is on WORDS with name, without it."""
    if isinstance(tree, bool) or tree[0] >= name:
        return _side(tree, name, there)
    return _branch(tree[0], _tree_with(tree[1], name, there), _tree_with(tree[2], name, there))


def _tree_holds(tree, words):
    while not isinstance(tree, bool):
        tree = _side(tree, tree[0], tree[0] in words)
    return tree


def _tree_apart(one, other):
    """The tree that holds where just one of both does."""
    return _tree_either(_tree_both(one, _tree_not(other)), _tree_both(_tree_not(one), other))


def _plain(tree):
    if isinstance(tree, bool):
        return ALWAYS if tree else NEVER
    name, yes, no = tree
    sides = _plain_side(("on", name), yes) + _plain_side(("not", ("on", name)), no)
    return sides[0] if len(sides) == 1 else ("any", sides)


def _plain_side(word, tree):
    """The tuple of the one side of a plain form, or of none, for WORDS on which word holds."""
    if isinstance(tree, bool):
        return (word,) if tree else ()
    return (("all", (word, _plain(tree))),)


def with_word(mark, name, there):
    return _plain(_tree_with(_tree_of(mark), name, there))


def plain_mark(mark):
    return _plain(_tree_of(mark))


def holds_always(mark):
    return _tree_of(mark) is True


def holds_never(mark):
    return _tree_of(mark) is False


def marks_alike(one, other):
    return _tree_of(one) == _tree_of(other)


def follows(one, other):
    return _tree_both(_tree_of(one), _tree_not(_tree_of(other))) is False


def _words_of(tree, names):
    """The list of the sets of these NAMES on which tree holds, the lesser ones first."""
    return [words for words in sets_of(names) if _tree_holds(tree, words)]


def parting_words(one, other):
    tree = _tree_apart(_tree_of(one), _tree_of(other))
    # A NAME on which tree does not hang is in no least WORDS.
    parting = _words_of(tree, names_of(_plain(tree)))
    return parting[0] if parting else None


def words_for(mark):
    return sorted(_words_of(_tree_of(mark), hangs_on(mark)))


def _settles(tree, words, names):
    """Whether tree is, on all WORDS that agree with words on names, what it is on words."""
    wanted = _tree_holds(tree, words)
    waiting = [tree]
    while waiting:
        own = waiting.pop()
        if isinstance(own, bool):
            if own != wanted:
                return False
        elif own[0] in names:
            waiting.append(_side(own, own[0], own[0] in words))
        else:
            waiting.extend(own[1:])
    return True


def reason(mark, words):
    tree, names = _tree_of(mark), hangs_on(mark)
    # All NAMES on which it hangs settle it; so they are left if no lesser set does.
    for own in sets_of(names)[:-1]:
        if _settles(tree, words, own):
            return own
    return names


def is_reason(mark, words, thing):
    return is_words(thing) and _settles(_tree_of(mark), words, thing)


def mark_text(mark):
    word, inner = mark
    if word == "on":
        return inner
    if word == "not":
        return "!" + mark_text(inner)
    texts = [mark_text(own) for own in inner]
    return "(" + "&".join(texts) + ")" if word == "all" else "[" + "|".join(texts) + "]"


def _name_end(text, at):
    """The place behind the NAME that begins at this place; at if none does."""
    end = at
    while end < at + LONGEST_NAME and stands_at(text, end, LETTERS):
        end += 1
    return end


def _closed(text, at, mark, opened):
    """The pair (mark, end): the greatest MARK that ends with this one, itself ending ahead of at; where
    it ends. What is opened and not closed there keeps its place in opened; then mark is its last MARK."""
    while opened:
        sign, marks = opened[-1]
        if sign == "!":
            mark = ("not", mark)
        else:
            marks.append(mark)
            if not stands_at(text, at, BRACKETS[sign][1]):
                return None, at
            mark = (BRACKETS[sign][2], tuple(marks))
            at += 1
        opened.pop()
    return mark, at


def _scanned(text):
    """The pair (mark, end): the MARK with this text, None if there is none; behind what begins one."""
    opened, at = [], 0
    while True:
        is_empty = False
        while stands_at(text, at, "!(["):
            opened.append((text[at], []))
            is_empty = text[at] != "!"
            at += 1
        end = _name_end(text, at)
        if end > at:
            mark, at = _closed(text, end, ("on", text[at:end]), opened)
        elif is_empty and stands_at(text, at, BRACKETS[opened[-1][0]][1]):
            sign, _ = opened.pop()
            mark, at = _closed(text, at + 1, (BRACKETS[sign][2], ()), opened)
        else:
            return None, at
        if not opened:
            return (mark if at == len(text) else None), at
        if not stands_at(text, at, BRACKETS[opened[-1][0]][0]):
            return None, at
        at += 1


def read_mark(text):
    mark, end = _scanned(text)
    if mark is None:
        raise BadText(end)
    return mark
