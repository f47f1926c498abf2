"""Texts of REGISTRIES, WISHES, LOCKS, NEEDS, and of what changes from one LOCK to another."""

from newestfit.errors import BadLine, BadText
from newestfit.items import is_item
from newestfit.locks import state_of, with_state
from newestfit.marks import ALWAYS, is_mark_text, is_words, mark_text, read_mark
from newestfit.rangetexts import is_range_text, range_text, read_range
from newestfit.shapes import in_tuples
from newestfit.updates import unlike_states
from newestfit.versions import is_name, read_version, version_end, version_text

# The first words of the lines of a RELEASE, as they come; needs of parts stand among the parts.
STAGES = ("release", "pulled", "need", "part", "clash")


def lines_in(text):
    """The list of the lines of text; "" has none."""
    return [] if text == "" else text.split("\n")


def item_text(item):
    name, part = item
    return name if part == "" else f"{name}/{part}"


def item_read(word):
    """The ITEM that a word tells; None if it tells none."""
    name, slash, part = word.partition("/")
    item = (name, part)
    return item if is_item(item) and (slash == "") == (part == "") else None


def is_version_text(word):
    return version_end(word, 0) == (len(word), True)


def _names_read(word):
    """The set of the NAMES that a word tells; None if it tells none."""
    names = tuple(word.split(","))
    return names if is_words(names) else None


def need_text(need):
    name, span, parts, mark = in_tuples(need)
    words = [name, range_text(span)]
    if parts != ():
        words.extend(["with", ",".join(parts)])
    if mark != ALWAYS:
        words.extend(["if", mark_text(mark)])
    return " ".join(words)


def _need_lines(blanks, needs):
    return [f"{blanks}need {need_text(need)}" for need in needs]


def _release_lines(release):
    name, version, needs, parts, clashes, pulled = release
    lines = [f"release {name} {version_text(version)}"]
    if pulled:
        lines.append(" pulled")
    lines.extend(_need_lines(" ", needs))
    for part, inner in parts:
        lines.append(f" part {part}")
        lines.extend(_need_lines("  ", inner))
    return lines + [f" clash {other} {range_text(span)}" for other, span in clashes]


def registry_text(registry):
    return "\n".join([line for release in registry for line in _release_lines(release)])


def wish_text(wish):
    needs, words, early = in_tuples(wish)
    lines = ["wish"]
    for word, names in (("words", words), ("early", early)):
        if names != ():
            lines.append(f" {word} {','.join(names)}")
    return "\n".join(lines + _need_lines(" ", needs))


def lock_text(lock):
    rows = [f" {item_text(item)} {version_text(version)}" for item, version in lock]
    return "\n".join(["lock"] + rows)


def lock_changes(one, other):
    lines = []
    for item, near, far in unlike_states(one, other):
        shown = [version_text(state) for state in (near, far) if state is not None]
        sign = "~" if len(shown) == 2 else ("+" if near is None else "-")
        lines.append(" ".join([sign, item_text(item)] + shown))
    return "\n".join(lines)


def _need_scanned(words):
    """The pair (need, place): the NEED that words tell, None if none; then the place of the first word that
    cannot stand there."""
    if not is_name(words[0]):
        return None, 0
    if len(words) < 2 or not is_range_text(words[1]):
        return None, 1
    parts, mark, place = (), ALWAYS, 2
    if words[place:place + 1] == ["with"]:
        parts = _names_read(words[place + 1]) if place + 1 < len(words) else None
        if parts is None:
            return None, place + 1
        place += 2
    if words[place:place + 1] == ["if"]:
        # A MARK that is ("all", ()) is not told.
        if place + 1 == len(words) or not is_mark_text(words[place + 1]) or read_mark(words[place + 1]) == ALWAYS:
            return None, place + 1
        mark = read_mark(words[place + 1])
        place += 2
    if place < len(words):
        return None, place
    return (words[0], read_range(words[1]), parts, mark), place


def read_need(text):
    need, place = _need_scanned(text.split(" "))
    if need is None:
        raise BadText(place)
    return need


def _need_behind(words):
    """The NEED that is told behind the first word, "need"; None if none is."""
    return _need_scanned(words[1:])[0] if len(words) > 1 else None


class Draft:
    """A RELEASE, line by line."""

    def __init__(self, name, version):
        self.place = (name, version)
        self.stage = "release"
        self.pulled = False
        self.needs = []
        self.parts = []
        self.clashes = []

    def taken(self, blanks, words):
        """Whether a line of these words, behind so many blanks, can stand there; it is taken then."""
        if blanks == 2:
            return self.stage == "part" and words[0] == "need" and _put_need(self.parts[-1][1], words)
        if words[0] not in STAGES or STAGES.index(words[0]) < STAGES.index(self.stage):
            return False
        self.stage = words[0]
        if words[0] == "need":
            return _put_need(self.needs, words)
        if words[0] == "part":
            return self.is_part_taken(words)
        if words[0] == "clash":
            return self.is_clash_taken(words)
        if words != ["pulled"] or self.pulled:
            return False
        self.pulled = True
        return True

    def is_part_taken(self, words):
        if len(words) != 2 or not is_name(words[1]):
            return False
        if self.parts and self.parts[-1][0] >= words[1]:
            return False
        self.parts.append((words[1], []))
        return True

    def is_clash_taken(self, words):
        if len(words) != 3 or not is_name(words[1]) or not is_range_text(words[2]):
            return False
        self.clashes.append((words[1], read_range(words[2])))
        return True

    def release_told(self):
        parts = tuple([(part, tuple(needs)) for part, needs in self.parts])
        return self.place + (tuple(self.needs), parts, tuple(self.clashes), self.pulled)


def _put_need(needs, words):
    """Whether words tell a NEED behind the first one; it stands at the end of needs then."""
    need = _need_behind(words)
    if need is not None:
        needs.append(need)
    return need is not None


def _blanks_and_words(line):
    """The pair (blanks, words): how many blanks, at most two, a line begins with, and its words."""
    blanks = 2 if line.startswith("  ") else (1 if line.startswith(" ") else 0)
    return blanks, line[blanks:].split(" ")


def _is_begun(drafts, words):
    """Whether words begin a RELEASE that can stand behind those of drafts; it stands there then."""
    if len(words) != 3 or words[0] != "release" or not is_name(words[1]) or not is_version_text(words[2]):
        return False
    draft = Draft(words[1], read_version(words[2]))
    if drafts and drafts[-1].place >= draft.place:
        return False
    drafts.append(draft)
    return True


def read_registry(text):
    drafts = []
    for number, line in enumerate(lines_in(text), start=1):
        blanks, words = _blanks_and_words(line)
        if blanks == 0:
            fine = _is_begun(drafts, words)
        else:
            fine = drafts != [] and drafts[-1].taken(blanks, words)
        if not fine:
            raise BadLine(number)
    return tuple([draft.release_told() for draft in drafts])


def _lines_behind(text, word):
    """The list of the triples (number, blanks, words) of all lines behind the first one; BadLine(1) unless
    that is this word."""
    lines = lines_in(text)
    if lines[:1] != [word]:
        raise BadLine(1)
    return [(number,) + _blanks_and_words(line) for number, line in enumerate(lines[1:], start=2)]


def _is_taken_by_wish(words, needs, named):
    """Whether a line of these words can stand behind needs, a list, and what is named, a dict of sets of
    NAMES; it is put there then."""
    if words[0] == "need":
        return _put_need(needs, words)
    if words[0] not in ("words", "early") or needs or "early" in named or words[0] in named:
        return False
    names = _names_read(words[1]) if len(words) == 2 else None
    if names is not None:
        named[words[0]] = names
    return names is not None


def read_wish(text):
    needs, named = [], {}
    for number, blanks, words in _lines_behind(text, "wish"):
        if blanks != 1 or not _is_taken_by_wish(words, needs, named):
            raise BadLine(number)
    return tuple(needs), named.get("words", ()), named.get("early", ())


def _pair_read(words):
    """The pair (ITEM, VERSION) that two words tell; None if they tell none."""
    if len(words) != 2 or item_read(words[0]) is None or not is_version_text(words[1]):
        return None
    return item_read(words[0]), read_version(words[1])


def read_lock(text):
    rows = []
    for number, blanks, words in _lines_behind(text, "lock"):
        pair = _pair_read(words) if blanks == 1 else None
        if pair is None or (rows and rows[-1][0] >= pair[0]):
            raise BadLine(number)
        rows.append(pair)
    return tuple(rows)


def _change_read(line):
    """The triple (ITEM, STATE, STATE) of a line of changes; None if it is none."""
    words = line.split(" ")
    pair = _pair_read(words[1:3])
    if pair is None:
        return None
    item, version = pair
    if len(words) == 3 and words[0] in ("+", "-"):
        return (item, None, version) if words[0] == "+" else (item, version, None)
    if len(words) != 4 or words[0] != "~" or not is_version_text(words[3]):
        return None
    other = read_version(words[3])
    return None if other == version else (item, version, other)


def _changes_read(text):
    """The list of the pairs (number, change), None for the change of the first line that is none, or whose
    ITEM is not above that of the line ahead: there the list ends."""
    rows = []
    for number, line in enumerate(lines_in(text), start=1):
        change = _change_read(line)
        if change is not None and rows and rows[-1][1][0] >= change[0]:
            change = None
        rows.append((number, change))
        if change is None:
            return rows
    return rows


def lock_changed(lock, text):
    lock = in_tuples(lock)
    behind = lock
    for number, change in _changes_read(text):
        if change is None or state_of(lock, change[0]) != change[1]:
            raise BadLine(number)
        behind = with_state(behind, change[0], change[2])
    return behind


def lock_turned(text):
    near, far = (), ()
    for number, change in _changes_read(text):
        if change is None:
            raise BadLine(number)
        near, far = with_state(near, change[0], change[1]), with_state(far, change[0], change[2])
    return lock_changes(far, near)
