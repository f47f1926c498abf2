"""A shell: requests, line by line, that change a HOUSE or tell of it, undone and redone."""

from newestfit.errors import BadLine, BadText, NoName, NoPaper, NoRelease, NothingDone, TooMany, Unfit
from newestfit.least import blame
from newestfit.locks import fits
from newestfit.reasons import who_asks
from newestfit.registry import pull
from newestfit.shapes import as_set, in_tuples
from newestfit.solve import best_lock
from newestfit.store import blank_disk, cut_behind, install_steps, mended, read_disk, written
from newestfit.texts import is_version_text, item_read, item_text, lines_in, lock_text
from newestfit.texts import read_need, read_registry, read_wish, wish_text
from newestfit.updates import updated
from newestfit.versions import DIGITS, is_name, read_version

# What stands behind the first word of a request; behind "add" words of whatever kind, one or more.
BEHIND = {
    "registry": (), "wish": (), "add": ("words",), "drop": ("name",), "word": ("name",), "early": ("name",),
    "pull": ("name", "version"), "lock": (), "keep": (), "install": (), "cut": ("figures",), "mend": (),
    "status": (), "show": (), "wished": (), "disk": (), "why": ("item",), "blame": (), "undo": (), "redo": (),
}
DEEDS = ("registry", "wish", "add", "drop", "word", "early", "pull", "lock", "keep", "install", "cut", "mend")
LOOKS = ("status", "show", "wished", "disk", "why", "blame")
# Those with a text.
WITH_TEXT = ("registry", "wish")
MOST_FIGURES = 4
NOTHING = "-"


def first_shell():
    return ((), ((), (), ()), None, blank_disk(8, 8)), (), ()


def _are_figures(word):
    """Whether word is a number of few figures without a needless 0."""
    if word == "" or len(word) > MOST_FIGURES or not all(sign in DIGITS for sign in word):
        return False
    return word == "0" or word[0] != "0"


def _is_of_kind(word, kind):
    if kind == "name":
        return is_name(word)
    if kind == "version":
        return is_version_text(word)
    return item_read(word) is not None if kind == "item" else _are_figures(word)


def _are_words_right(words):
    """Whether words are the first line of a request."""
    if words[0] not in BEHIND:
        return False
    kinds, rest = BEHIND[words[0]], words[1:]
    if kinds == ("words",):
        return rest != [] and all(word != "" for word in rest)
    return len(rest) == len(kinds) and all(_is_of_kind(word, kind) for word, kind in zip(rest, kinds))


def _parted(request):
    """The pair (words, lines): the words of the first line, the lines of the text, each without its first
    blank; None if request is no request."""
    lines = lines_in(request)
    if not lines or not all(line.startswith(" ") for line in lines[1:]):
        return None
    words = lines[0].split(" ")
    if not _are_words_right(words) or (words[0] in WITH_TEXT) != (len(lines) > 1):
        return None
    return words, [line[1:] for line in lines[1:]]


def is_request(thing):
    return isinstance(thing, str) and _parted(thing) is not None


def requests(text):
    rows = []
    for number, line in enumerate(lines_in(text), start=1):
        if line.startswith(" ") and rows:
            rows[-1][1].append(line)
        else:
            rows.append((number, [line]))
    found = []
    for number, lines in rows:
        request = "\n".join(lines)
        if not is_request(request):
            raise BadLine(number)
        found.append(request)
    return found


def _asked(request, among):
    """As _parted, of a request with a first word among these; Unfit() for another string."""
    parted = _parted(request)
    if parted is None or parted[0][0] not in among:
        raise Unfit()
    return parted


def _there(lock):
    """The LOCK; Unfit() without."""
    if lock is None:
        raise Unfit()
    return lock


def _turned(names, name):
    """The set of NAMES with name, or without it if it is there."""
    if name in names:
        return tuple([own for own in names if own != name])
    return as_set(names + (name,))


def _wish_after(wish, words):
    """The WISH behind add, drop, word, early."""
    (needs, named, early), name = wish, words[1]
    if words[0] == "add":
        return needs + (read_need(" ".join(words[1:])),), named, early
    if words[0] == "word":
        return needs, _turned(named, name), early
    if words[0] == "early":
        return needs, named, _turned(early, name)
    kept = tuple([need for need in needs if need[0] != name])
    if len(kept) == len(needs):
        raise NoName(name)
    return kept, named, early


def _lock_after(house, word):
    """The LOCK behind lock, keep."""
    registry, wish, lock, _ = house
    if word == "lock":
        return best_lock(registry, wish)
    return updated(registry, wish, _there(lock))


def _disk_after(house, words):
    """The DISK behind install, cut, mend."""
    _, _, lock, disk = house
    if words[0] == "mend":
        return mended(disk)
    steps = install_steps(disk, _there(lock))
    return written(disk, steps) if words[0] == "install" else cut_behind(disk, steps, int(words[1]))


def house_after(house, request):
    words, lines = _asked(request, DEEDS)
    house = in_tuples(house)
    registry, wish, lock, disk = house
    if words[0] == "registry":
        return read_registry("\n".join(lines)), wish, lock, disk
    if words[0] == "wish":
        return registry, read_wish("\n".join(lines)), lock, disk
    if words[0] in ("add", "drop", "word", "early"):
        return registry, _wish_after(wish, words), lock, disk
    if words[0] == "pull":
        return pull(registry, words[1], read_version(words[2])), wish, lock, disk
    if words[0] in ("lock", "keep"):
        return registry, wish, _lock_after(house, words[0]), disk
    return registry, wish, lock, _disk_after(house, words)


def _status(registry, wish, lock):
    if lock is None:
        return "none"
    if not fits(registry, wish, lock):
        return "broken"
    return "best" if best_lock(registry, wish) == lock else "fits"


def _why(registry, wish, lock, item):
    rows = []
    for asker, k in who_asks(registry, wish, _there(lock), item):
        shown = "wish" if asker == () else item_text(asker)
        rows.append(f"{shown} {k}")
    return ", ".join(rows)


def told(house, request):
    words, _ = _asked(request, LOOKS)
    registry, wish, lock, disk = in_tuples(house)
    if words[0] == "status":
        return _status(registry, wish, lock)
    if words[0] == "show":
        return lock_text(_there(lock))
    if words[0] == "wished":
        return wish_text(wish)
    if words[0] == "disk":
        return lock_text(read_disk(disk))
    if words[0] == "why":
        shown = _why(registry, wish, lock, item_read(words[1]))
        return NOTHING if shown == "" else shown
    return " ".join([f"{number}" for number in blame(registry, wish, ())])


def _stepped(house, ahead, behind):
    """The triple (house, ahead, behind) with the last pair of ahead taken away and turned; the word with it."""
    if not ahead:
        raise NothingDone()
    word, other = ahead[-1]
    return other, ahead[:-1], behind + ((word, house),), word


def _answered(shell, request):
    """The pair (SHELL, reply) of a request that is not refused."""
    house, past, later = shell
    word = request.split("\n")[0].split(" ")[0]
    if word == "undo":
        house, past, later, done = _stepped(house, past, later)
        return (house, past, later), done
    if word == "redo":
        house, later, past, done = _stepped(house, later, past)
        return (house, past, later), done
    if word in LOOKS:
        return shell, told(house, request)
    return (house_after(house, request), past + ((word, house),), ()), "done"


def _worked(shell, request):
    """As worked, of a request and a SHELL made of tuples."""
    try:
        return _answered(shell, request)
    except NoName:
        error = "NoName"
    except NoRelease:
        error = "NoRelease"
    except NothingDone:
        error = "NothingDone"
    except Unfit:
        error = "Unfit"
    except NoPaper:
        error = "NoPaper"
    except TooMany:
        error = "TooMany"
    except BadText:
        error = "BadText"
    except BadLine:
        error = "BadLine"
    return shell, f"refused {error}"


def worked(shell, request):
    if not is_request(request):
        raise Unfit()
    return _worked(in_tuples(shell), request)


def session(shell, text):
    shell, replies = in_tuples(shell), []
    for request in requests(text):
        shell, reply = _worked(shell, request)
        replies.append(reply)
    return shell, tuple(replies)
