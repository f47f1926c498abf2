"""A plain model of the store: what DISKS mean, all cuts of WRITINGS cell by cell; and things drawn for the tests."""

import itertools

from newestfit.errors import Unfit
from newestfit.store import blank_disk, cut_behind, install_steps, written
from support import ONE, TWO

TORN, SYNC, HEAD = ("torn",), ("sync",), ("head", 0)
ITEMS = (("a", ""), ("a", "p"), ("b", ""), ("c", ""), ("d", "q"))
VERSIONS = (ONE, TWO, (0, 0, 0, -9))
A, B = ("has", ("a", ""), ONE), ("has", ("b", ""), TWO)


def told_notes(disk):
    head, notes, rooms = disk
    if head[:1] not in (("go",), ("done",)) or head[1] > len(notes):
        return []
    told = notes[:head[1]]
    if any(note == () or note == TORN for note in told):
        return []
    places = [note[1] for note in told]
    return list(told) if sorted(set(places)) == places and max(places) < len(rooms) else []


def lock_of(rooms):
    """The LOCK in these words of ROOMS, None if it can't be read."""
    had = [word[1:] for word in rooms if word != ()]
    if any(word == TORN for word in rooms) or len({own[0] for own in had}) < len(had):
        return None
    return tuple(sorted(had))


def laid(disk, which):
    rooms = dict(enumerate(disk[2]))
    rooms.update({note[1]: note[which] for note in told_notes(disk)})
    return list(rooms.values())


def meaning(disk):
    if disk[0][:1] == ("go",):
        return lock_of(laid(disk, 3)) if told_notes(disk) else None
    return lock_of(disk[2])


def ahead_of(disk):
    return lock_of(laid(disk, 2)) if told_notes(disk) else None


def cells_of(disk):
    head, notes, rooms = disk
    return {HEAD: head, **{("note", k): word for k, word in enumerate(notes)}, **{("room", k): word for k, word in enumerate(rooms)}}


def disk_of(cells):
    return (cells[HEAD], *[tuple([word for (kind, _), word in cells.items() if kind == own]) for own in ("note", "room")])


def stretches(writing):
    rows = [[]]
    for step in writing:
        if step == SYNC:
            rows.append([])
        else:
            rows[-1].append(step)
    return rows


def plain_cuts(disk, writing):
    """The pair (cuts, ends), sets; None if too many lie in a stretch."""
    cells, found = cells_of(disk), []
    for row in stretches(writing):
        words = {place: {cells[place], TORN} for _, place, _ in row}
        for _, place, word in row:
            words[place].add(word)
        many = 1
        for own in words.values():
            many *= len(own)
        if many > 1000:
            return None
        lying = [disk_of({**cells, **dict(zip(words, own))}) for own in itertools.product(*words.values())]
        found.append(set(lying))
        cells.update({place: word for _, place, word in row})
    return set().union(*found), found[-1]


def right(own, disk, lock):
    if meaning(own) is None:
        return False
    return (meaning(own) == meaning(disk) and ahead_of(own) in (None, ahead_of(disk))
            or meaning(own) == lock and ahead_of(own) in (None, meaning(disk)))


def right_end(own, disk, lock):
    return (meaning(own) == lock and (own[0] == () or own[0][0] == "done")
            and (meaning(disk) == lock or ahead_of(own) == meaning(disk)))


def bad_ones(disk, writing, lock):
    cuts, ends = plain_cuts(disk, writing)
    return {own for own in cuts if not right(own, disk, lock)} | {own for own in ends if not right_end(own, disk, lock)}


def made_word(rng, kind, rooms=4):
    def room():
        return rng.choice([(), ("has", rng.choice(ITEMS), rng.choice(VERSIONS))])
    if kind == "room":
        return room()
    if kind == "note":
        return rng.choice([(), ("note", rng.randrange(rooms + 1), room(), room()), ("note", rng.randrange(rooms), room(), room())])
    return rng.choice([(), ("go", rng.randint(1, 3)), ("done", rng.randint(1, 3))])


def made_lock(rng, most):
    items = rng.sample(ITEMS, rng.randint(0, min(most, len(ITEMS))))
    return tuple(sorted([(item, rng.choice(VERSIONS)) for item in items]))


def wild_disk(rng):
    """Whatever DISK, mostly one that cannot be read."""
    many = rng.randint(1, 4)
    words = {kind: tuple([rng.choice((TORN, made_word(rng, kind, many), made_word(rng, kind, many), made_word(rng, kind, many)))
                          for _ in range(many)]) for kind in ("note", "room")}
    return (rng.choice((TORN, (), made_word(rng, "head"))), words["note"], words["room"])


def tame_disk(rng, rooms=None, notes=None):
    """A DISK that can be read: wild, or behind a few WRITINGS, the last one mostly cut off."""
    while rooms is None and rng.random() < 0.3:
        disk = wild_disk(rng)
        if meaning(disk) is not None:
            return disk
    rooms = rooms or rng.randint(1, 5)
    disk = blank_disk(notes or rng.randint(rooms, 5), rooms)
    for _ in range(rng.randint(0, 2)):
        disk = written(disk, install_steps(disk, made_lock(rng, rooms)))
    steps = install_steps(disk, made_lock(rng, rooms))
    return cut_behind(disk, steps, rng.randrange(len(steps) + 1))


def made_writing(rng, disk, most=7):
    """Some WRITING: anyhow, or one that installs, spoilt at one step or not."""
    if rng.random() < 0.5:
        try:
            steps = install_steps(disk, made_lock(rng, len(disk[2])))
        except Unfit:
            return ()
        k = rng.randrange(len(steps) + 1)
        return rng.choice((steps, steps[:k], steps[:k] + steps[k + 1:], steps[k:], steps + steps[:k]))
    places = list(cells_of(disk))
    steps = []
    for _ in range(rng.randint(0, most)):
        place = rng.choice(places)
        steps.append(rng.choice((SYNC, ("put", place, made_word(rng, place[0], len(disk[2]))))))
    return tuple(steps)
