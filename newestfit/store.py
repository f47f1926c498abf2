"""The store: what a DISK means, WRITINGS that install a LOCK on it, what lies there if they are cut off."""

from newestfit.errors import NoPaper, TooMany, Unfit
from newestfit.items import is_item
from newestfit.shapes import as_set, in_tuples, is_ascending, is_number, is_tuple_of
from newestfit.versions import is_version

EMPTY = ()
TORN = ("torn",)
HEAD = ("head", 0)
SYNC = ("sync",)
# So many unlike DISKS may lie there in one stretch.
MOST_DISKS = 1000
# The places of the old and of the new word in a NOTE.
OLD = 2
NEW = 3


def _is_head(thing):
    if thing in (EMPTY, TORN):
        return True
    return is_tuple_of(thing, 2) and thing[0] in ("go", "done") and is_number(thing[1]) and thing[1] >= 1


def _is_whole_room(thing):
    if thing == EMPTY:
        return True
    return is_tuple_of(thing, 3) and thing[0] == "has" and is_item(thing[1]) and is_version(thing[2])


def _is_whole_note(thing):
    if thing == EMPTY:
        return True
    if not is_tuple_of(thing, 4) or thing[0] != "note" or not is_number(thing[1]) or thing[1] < 0:
        return False
    return _is_whole_room(thing[OLD]) and _is_whole_room(thing[NEW])


def is_disk(thing):
    if not is_tuple_of(thing, 3) or not _is_head(thing[0]):
        return False
    _, notes, rooms = thing
    if not isinstance(notes, tuple) or not isinstance(rooms, tuple) or notes == () or rooms == ():
        return False
    if not all(note == TORN or _is_whole_note(note) for note in notes):
        return False
    return all(room == TORN or _is_whole_room(room) for room in rooms)


def blank_disk(notes, rooms):
    return EMPTY, (EMPTY,) * notes, (EMPTY,) * rooms


def _is_step(disk, thing):
    if thing == SYNC:
        return True
    if not is_tuple_of(thing, 3) or thing[0] != "put" or not is_tuple_of(thing[1], 2):
        return False
    (kind, number), word = thing[1:]
    if not is_number(number) or number < 0:
        return False
    if kind == "head":
        return number == 0 and word != TORN and _is_head(word)
    if kind == "note":
        return number < len(disk[1]) and _is_whole_note(word)
    return kind == "room" and number < len(disk[2]) and _is_whole_room(word)


def is_writing(disk, thing):
    return isinstance(thing, tuple) and all(_is_step(disk, step) for step in thing)


def _told_notes(disk):
    """The tuple of the NOTES that HEAD tells, () if it tells none."""
    head, notes, rooms = disk
    if len(head) < 2 or head[1] > len(notes):
        return ()
    told = notes[:head[1]]
    if not all(len(note) == 4 for note in told):
        return ()
    places = [note[1] for note in told]
    return told if is_ascending(places) and places[-1] < len(rooms) else ()


def _lock_lying(disk, told, which):
    """The LOCK in the rooms with the words of the told NOTES, old or new, laid over them; None if a word is
    torn or an ITEM is twice."""
    rooms, there = list(disk[2]), {}
    for note in told:
        rooms[note[1]] = note[which]
    for room in rooms:
        if room == TORN or (room != EMPTY and room[1] in there):
            return None
        if room != EMPTY:
            there[room[1]] = room[2]
    return tuple([(item, there[item]) for item in sorted(there)])


def _meaning(disk):
    """The LOCK that a DISK means; None if it cannot be read."""
    if disk[0][:1] != ("go",):
        return _lock_lying(disk, (), NEW)
    told = _told_notes(disk)
    return _lock_lying(disk, told, NEW) if told else None


def _lock_ahead(disk):
    """The LOCK ahead; None without."""
    told = _told_notes(disk)
    return _lock_lying(disk, told, OLD) if told else None


def _readable(disk):
    """The DISK, made of tuples; Unfit() if it cannot be read."""
    disk = in_tuples(disk)
    if _meaning(disk) is None:
        raise Unfit()
    return disk


def read_disk(disk):
    return _meaning(_readable(disk))


def earlier_lock(disk):
    return _lock_ahead(_readable(disk))


def _word_at(disk, place):
    kind, number = place
    if kind == "head":
        return disk[0]
    return disk[1 if kind == "note" else 2][number]


def _with_word(disk, place, word):
    """The DISK with this word in this place."""
    head, notes, rooms = disk
    kind, number = place
    if kind == "head":
        return word, notes, rooms
    if kind == "note":
        return head, notes[:number] + (word,) + notes[number + 1:], rooms
    return head, notes, rooms[:number] + (word,) + rooms[number + 1:]


def _puts_of(writing):
    """The list of the pairs (place, word) of its puts."""
    return [step[1:] for step in in_tuples(writing) if step != SYNC]


def _behind(disk, puts):
    """The DISK behind these pairs (place, word)."""
    for place, word in puts:
        disk = _with_word(disk, place, word)
    return disk


def written(disk, writing):
    return _behind(_readable(disk), _puts_of(writing))


def cut_behind(disk, writing, many):
    puts = _puts_of(writing)
    disk = _behind(_readable(disk), puts[:many])
    return _with_word(disk, puts[many][0], TORN) if many < len(puts) else disk


def _stretches(writing):
    """The list of the stretches, each a list of the pairs (place, word) of its puts."""
    found = [[]]
    for step in writing:
        if step == SYNC:
            found.append([])
        else:
            found[-1].append(step[1:])
    return found


def _words_by_places(disk, puts):
    """A dict of the lists of the unlike words that each cell named by puts may have while these are done."""
    found = {}
    for place, word in puts:
        words = found.setdefault(place, [_word_at(disk, place)])
        for own in (TORN, word):
            if own not in words:
                words.append(own)
    return found


def _disks_lying(disk, words):
    """The list of the DISKS with any of these words, a dict of lists, in their places."""
    found = [disk]
    for place, rows in words.items():
        found = [_with_word(own, place, word) for own in found for word in rows]
    return found


def _how_many_lie(words):
    many = 1
    for place in words:
        many = many * len(words[place])
    return many


def _all_lying(disk, writing):
    """The list, stretch by stretch, of the lists of the DISKS that can lie there; TooMany() if they are too
    many in one."""
    rows = []
    for puts in _stretches(in_tuples(writing)):
        words = _words_by_places(disk, puts)
        if _how_many_lie(words) > MOST_DISKS:
            raise TooMany()
        rows.append((disk, words))
        disk = _behind(disk, puts)
    return [_disks_lying(own, words) for own, words in rows]


def _cuts_and_ends(disk, writing):
    """The pair of the sets of the cuts, of the ends."""
    rows = _all_lying(_readable(disk), writing)
    return as_set([own for row in rows for own in row]), as_set(rows[-1])


def cut_disks(disk, writing):
    return _cuts_and_ends(disk, writing)[0]


def end_disks(disk, writing):
    return _cuts_and_ends(disk, writing)[1]


def read_locks(disk, writing):
    meant = [_meaning(own) for own in cut_disks(disk, writing)]
    return as_set([lock for lock in meant if lock is not None])


def _mend_puts(disk):
    """The list of the puts of mend_steps into ROOMS."""
    told = _told_notes(disk) if disk[0][:1] == ("go",) else ()
    return [("put", ("room", note[1]), note[NEW]) for note in told if disk[2][note[1]] != note[NEW]]


def _synced(puts):
    """These puts, a list, and a sync behind them, if there are any."""
    return tuple(puts) + (SYNC,) if puts else ()


def mend_steps(disk):
    disk = _readable(disk)
    head = disk[0]
    if head == TORN:
        return _synced([("put", HEAD, EMPTY)])
    if head[:1] == ("go",):
        return _synced(_mend_puts(disk)) + _synced([("put", HEAD, ("done", head[1]))])
    return ()


def mended(disk):
    return written(disk, mend_steps(disk))


def room_changes(disk, lock):
    _, notes, rooms = mended(disk)
    there = {item: version for item, version in in_tuples(lock)}
    if len(there) > len(rooms):
        raise Unfit()
    going, free, new, kept = [], [], {}, {}
    for number, room in enumerate(rooms):
        if room == EMPTY:
            free.append(number)
        elif room[1] not in there:
            going.append(number)
            new[number] = EMPTY
        else:
            kept[room[1]] = True
            new[number] = ("has", room[1], there[room[1]])
    coming = [item for item in there if item not in kept]
    for number, item in zip(going + free, coming):
        new[number] = ("has", item, there[item])
    changes = [("note", number, rooms[number], new[number]) for number in sorted(new) if new[number] != rooms[number]]
    if len(changes) > len(notes):
        raise Unfit()
    return tuple(changes)


def install_steps(disk, lock):
    changes = room_changes(disk, lock)
    if not changes:
        return mend_steps(disk)
    disk = in_tuples(disk)
    head, notes, _ = disk
    steps = _synced(_mend_puts(disk))
    if len(head) == 2:
        steps = steps + _synced([("put", HEAD, EMPTY)])
    steps = steps + _synced([("put", ("note", k), change) for k, change in enumerate(changes) if notes[k] != change])
    steps = steps + _synced([("put", HEAD, ("go", len(changes)))])
    steps = steps + _synced([("put", ("room", change[1]), change[NEW]) for change in changes])
    return steps + _synced([("put", HEAD, ("done", len(changes)))])


def undo_steps(disk):
    lock = earlier_lock(disk)
    if lock is None:
        raise Unfit()
    return install_steps(disk, lock)


def clean_steps(disk):
    steps = mend_steps(disk)
    head, notes, _ = mended(disk)
    if head != EMPTY:
        steps = steps + _synced([("put", HEAD, EMPTY)])
    return steps + _synced([("put", ("note", k), EMPTY) for k, note in enumerate(notes) if note != EMPTY])


def _is_right(own, before, ahead, lock):
    """Whether own, a cut, is right for a DISK that means before, the LOCK ahead of it being ahead."""
    meant, earlier = _meaning(own), _lock_ahead(own)
    if meant == before and (earlier is None or earlier == ahead):
        return True
    return meant == lock and (earlier is None or earlier == before)


def _is_right_end(own, before, lock):
    """Whether own, an end, is as it ought to be."""
    if own[0] != EMPTY and own[0][0] != "done":
        return False
    return _meaning(own) == lock and (before == lock or _lock_ahead(own) == before)


def _bad_ones(disk, writing, lock):
    """The list of the cuts that are not right, and of the ends not as they ought to be."""
    cuts, ends = _cuts_and_ends(disk, writing)
    before, ahead, lock = read_disk(disk), earlier_lock(disk), in_tuples(lock)
    bad = [own for own in cuts if not _is_right(own, before, ahead, lock)]
    return bad + [own for own in ends if not _is_right_end(own, before, lock)]


def is_safe(disk, writing, lock):
    return not _bad_ones(disk, writing, lock)


def bad_cut(disk, writing, lock):
    found = _bad_ones(disk, writing, lock)
    if not found:
        raise NoPaper()
    return found[0]


def is_bad_cut(disk, writing, lock, thing):
    found = _bad_ones(disk, writing, lock)
    # 1 and True compare as equal, so the shape is looked at, too.
    return is_disk(thing) and thing in found


def needless_steps(disk, writing, lock):
    writing, found = in_tuples(writing), []
    disk = _readable(disk)
    for k in range(len(writing)):
        if is_safe(disk, writing[:k] + writing[k + 1:], lock):
            found.append(k)
    return tuple(found)
