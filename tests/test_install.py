"""[19]: the WRITINGS that install, mend, undo and clean, step by step, and what each cut of them means."""

import itertools
import random
import unittest

from newestfit.errors import Unfit
from newestfit.store import blank_disk, clean_steps, cut_behind, cut_disks, earlier_lock, end_disks, install_steps
from newestfit.store import is_safe, is_writing, mend_steps, mended, needless_steps, read_disk, room_changes, undo_steps
from newestfit.store import written
from stores import A, B, HEAD, SYNC, TORN, bad_ones, made_lock, meaning, tame_disk, told_notes
from support import Case, ONE, TWO

GO = ("go",)


def put(place, word):
    return ("put", place, word)


def synced(puts):
    return [*puts, SYNC] if puts else []


def plain_mend(disk):
    if disk[0] == TORN:
        return [put(HEAD, ()), SYNC]
    if disk[0][:1] != GO:
        return []
    rows = [put(("room", note[1]), note[3]) for note in told_notes(disk) if disk[2][note[1]] != note[3]]
    return synced(rows) + [put(HEAD, ("done", disk[0][1])), SYNC]


def plain_changes(disk, lock):
    """The ROOMS that change, by the words; None if there are too few."""
    rooms, wanted = list(written(disk, tuple(plain_mend(disk)))[2]), dict(lock)
    had = {word[1]: k for k, word in enumerate(rooms) if word}
    new = list(rooms)
    for item in had:
        new[had[item]] = ("has", item, wanted[item]) if item in wanted else ()
    gone = sorted([had[item] for item in had if item not in wanted])
    free = gone + [k for k, word in enumerate(rooms) if not word]
    coming = sorted([item for item in wanted if item not in had])
    if len(coming) > len(free):
        return None
    for k, item in zip(free, coming):
        new[k] = ("has", item, wanted[item])
    rows = [("note", k, rooms[k], new[k]) for k in range(len(rooms)) if rooms[k] != new[k]]
    return None if len(rows) > len(disk[1]) else rows


def plain_install(disk, lock):
    rows = plain_changes(disk, lock)
    if not rows:
        return plain_mend(disk)
    steps = []
    if disk[0][:1] == GO:
        steps += synced([step for step in plain_mend(disk) if step[0] == "put" and step[1] != HEAD])
    if disk[0][:1] in (GO, ("done",)):
        steps += [put(HEAD, ()), SYNC]
    steps += synced([put(("note", k), row) for k, row in enumerate(rows) if disk[1][k] != row])
    steps += [put(HEAD, ("go", len(rows))), SYNC]
    steps += [put(("room", row[1]), row[3]) for row in rows] + [SYNC]
    return steps + [put(HEAD, ("done", len(rows))), SYNC]


def plain_clean(disk):
    steps = plain_mend(disk)
    head = written(disk, tuple(steps))[0]
    steps += [put(HEAD, ()), SYNC] if head else []
    return steps + synced([put(("note", k), ()) for k, note in enumerate(disk[1]) if note != ()])


def cases(rng, times):
    """Made-up pairs of a DISK that can be read and a LOCK that has room on it."""
    while times:
        disk = tame_disk(rng)
        lock = rng.choice((made_lock(rng, len(disk[2])), made_lock(rng, len(disk[2])), meaning(disk)))
        if plain_changes(disk, lock) is not None:
            times -= 1
            yield disk, lock


class Steps(Case):
    def test_word_by_word(self):
        rng, kinds = random.Random(1911), {}
        for disk, lock in cases(rng, 1200):
            self.same(mend_steps(disk), tuple(plain_mend(disk)))
            self.same(mended(disk), written(disk, tuple(plain_mend(disk))))
            self.same(room_changes(disk, lock), tuple(plain_changes(disk, lock)))
            self.same(install_steps(disk, lock), tuple(plain_install(disk, lock)))
            self.same(clean_steps(disk), tuple(plain_clean(disk)))
            for steps in (mend_steps(disk), install_steps(disk, lock), clean_steps(disk)):
                self.assertIs(is_writing(disk, steps), True)
            kinds[disk[0][:1]] = kinds.get(disk[0][:1], 0) + 1
        self.assertGreater(min(kinds.values()), 50, kinds)
        self.assertEqual(len(kinds), 4)

    def test_undo(self):
        rng, seen = random.Random(1912), 0
        for disk, _ in cases(rng, 500):
            ahead = earlier_lock(disk)
            if ahead is None or plain_changes(disk, ahead) is None:
                with self.assertRaises(Unfit):
                    undo_steps(disk)
            else:
                seen += 1
                self.same(undo_steps(disk), tuple(plain_install(disk, ahead)))
                self.assertEqual(read_disk(written(disk, undo_steps(disk))), ahead)
        self.assertGreater(seen, 100)

    def test_they_say(self):
        disk, lock = blank_disk(2, 2), ((("a", ""), ONE), (("b", ""), TWO))
        notes = [("note", 0, (), A), ("note", 1, (), B)]
        steps = (put(("note", 0), notes[0]), put(("note", 1), notes[1]), SYNC, put(HEAD, ("go", 2)), SYNC,
                 put(("room", 0), A), put(("room", 1), B), SYNC, put(HEAD, ("done", 2)), SYNC)
        self.says(tuple(notes), room_changes, disk=disk, lock=lock)
        self.says(steps, install_steps, disk=disk, lock=lock)
        done = (("done", 2), tuple(notes), (A, B))
        self.says(done, written, disk=disk, writing=steps)
        self.says((put(HEAD, ()), SYNC, put(("note", 0), ("note", 0, A, ())), put(("note", 1), ("note", 1, B, ())), SYNC,
                   put(HEAD, ("go", 2)), SYNC, put(("room", 0), ()), put(("room", 1), ()), SYNC, put(HEAD, ("done", 2)), SYNC),
                  undo_steps, disk=done)
        self.says((), mend_steps, disk=done)
        self.says(done, mended, disk=done)
        self.says((), install_steps, disk=done, lock=lock)
        self.says((put(HEAD, ()), SYNC, put(("note", 0), ()), put(("note", 1), ()), SYNC), clean_steps, disk=done)
        self.says((), clean_steps, disk=blank_disk(2, 2))
        # What lies there as it ought to is not put again.
        self.says((put(("note", 1), notes[1]), SYNC, put(HEAD, ("go", 2)), SYNC, put(("room", 0), A), put(("room", 1), B), SYNC,
                   put(HEAD, ("done", 2)), SYNC), install_steps, disk=((), (notes[0], TORN), ((), ())), lock=lock)
        going = (("go", 2), tuple(notes), (A, TORN))
        self.says((put(("room", 1), B), SYNC, put(HEAD, ("done", 2)), SYNC), mend_steps, disk=going)
        self.says((put(("room", 1), B), SYNC, put(HEAD, ("done", 2)), SYNC), install_steps, disk=going, lock=lock)
        self.says((put(("room", 1), B), SYNC, put(HEAD, ()), SYNC, put(("note", 0), ("note", 1, B, ())), SYNC,
                   put(HEAD, ("go", 1)), SYNC, put(("room", 1), ()), SYNC, put(HEAD, ("done", 1)), SYNC),
                  install_steps, disk=going, lock=lock[:1])
        self.says((put(HEAD, ()), SYNC), mend_steps, disk=(TORN, tuple(notes), (A, B)))
        self.says((put(HEAD, ()), SYNC, put(("note", 0), ()), SYNC), clean_steps, disk=(TORN, (TORN, ()), (A, B)))
        # What a HEAD done tells is not laid into the ROOMS again.
        changed = (("done", 1), (("note", 0, (), A),), (B,))
        self.says((put(HEAD, ()), SYNC, put(("note", 0), ("note", 0, B, A)), SYNC, put(HEAD, ("go", 1)), SYNC, put(("room", 0), A), SYNC,
                   put(HEAD, ("done", 1)), SYNC), install_steps, disk=changed, lock=lock[:1])
        self.says((), mend_steps, disk=changed)
        # HEAD torn stays so till the NOTES are there.
        self.says((put(("note", 0), ("note", 0, A, ())), SYNC, put(HEAD, ("go", 1)), SYNC, put(("room", 0), ()), SYNC,
                   put(HEAD, ("done", 1)), SYNC), install_steps, disk=(TORN, tuple(notes), (A, ())), lock=())

    def test_rooms_of_those_that_go_come_first(self):
        items = [(name, "") for name in ("a", "b", "c", "d", "e")]
        has = {item[0]: ("has", item, ONE) for item in items}
        disk = ((), ((),) * 5, ((), has["d"], has["b"], (), has["c"]))
        lock = tuple([(item, TWO if item[0] == "c" else ONE) for item in items if item[0] in "ace"])
        self.says((("note", 1, has["d"], has["a"]), ("note", 2, has["b"], has["e"]), ("note", 4, has["c"], ("has", items[2], TWO))),
                  room_changes, disk=disk, lock=lock)
        self.says((("note", 1, has["d"], has["a"]), ("note", 2, has["b"], ()), ("note", 4, has["c"], ())), room_changes, disk=disk,
                  lock=((items[0], ONE),))
        self.says((("note", 0, (), has["a"]), ("note", 3, (), has["e"])), room_changes, disk=disk,
                  lock=tuple([(item, ONE) for item in items]))

    def test_too_few_rooms_or_notes(self):
        lock = ((("a", ""), ONE), (("b", ""), ONE))
        for function in (room_changes, install_steps):
            self.refuses(Unfit(), function, disk=blank_disk(4, 1), lock=lock)
            self.refuses(Unfit(), function, disk=blank_disk(1, 4), lock=lock)
            self.refuses(Unfit(), function, disk=((), ((),), (A, B)), lock=())
        self.says((("note", 0, (), A),), room_changes, disk=blank_disk(1, 1), lock=lock[:1])
        # What is to be undone may need more NOTES than there are.
        self.refuses(Unfit(), undo_steps, disk=(("done", 1), (("note", 0, B, ()),), (TORN,)))
        self.refuses(Unfit(), undo_steps, disk=blank_disk(1, 1))
        self.refuses(Unfit(), undo_steps, disk=((), (("note", 0, A, B),), (B,)))


class Guarantees(Case):
    def test_installs_are_safe(self):
        rng, others = random.Random(1913), 0
        for disk, lock in cases(rng, 150):
            steps = install_steps(disk, lock)
            self.assertIs(is_safe(disk, steps, lock), True, (disk, lock))
            self.assertFalse(bad_ones(disk, steps, lock))
            for own in end_disks(disk, steps):
                self.assertEqual(meaning(own), lock)
            for own in cut_disks(disk, steps):
                self.assertIn(meaning(own), (meaning(disk), lock))
                self.assertEqual(mended(mended(own)), mended(own))
                self.assertEqual(meaning(mended(own)), meaning(own))
            # None can be left out, unless HEAD tells something or nothing is to be done.
            if disk[0] in ((), TORN) and meaning(disk) != lock and len(steps) < 13:
                others += 1
                self.same(needless_steps(disk, steps, lock), ())
        self.assertGreater(others, 20)

    def test_fewest_rooms_change(self):
        rng = random.Random(1914)
        for disk, lock in cases(rng, 150):
            rooms = mended(disk)[2]
            if len(rooms) > 4:
                continue
            words = [("has", *pair) for pair in lock] + [()] * (len(rooms) - len(lock))
            best = min(sum(one != other for one, other in zip(rooms, row)) for row in itertools.permutations(words))
            self.assertEqual(len(room_changes(disk, lock)), best)

    def test_mending_and_cleaning_mean_the_same(self):
        rng = random.Random(1915)
        for disk, _ in cases(rng, 250):
            self.assertEqual(mended(mended(disk)), mended(disk))
            for steps in (mend_steps(disk), clean_steps(disk)):
                if len(steps) > 6:
                    continue
                for own in cut_disks(disk, steps):
                    self.assertEqual(meaning(own), meaning(disk))
                    self.assertEqual(meaning(mended(own)), meaning(disk))
                    self.assertEqual(mended(mended(own)), mended(own))
            clean = written(disk, clean_steps(disk))
            self.assertEqual((clean[0], set(clean[1])), ((), {()}))
            self.assertEqual(clean_steps(clean), ())

    def test_cut_at_each_put_and_mended(self):
        rng, both = random.Random(1916), set()
        for disk, lock in cases(rng, 200):
            steps = install_steps(disk, lock)
            for many in range(len(steps) + 1):
                cut = cut_behind(disk, steps, many)
                whole = mended(cut)
                self.assertIn(read_disk(whole), (read_disk(disk), lock))
                self.assertNotIn(TORN, (whole[0], *whole[2]))
                self.assertEqual(mended(whole), whole)
                again = written(whole, install_steps(whole, lock))
                self.assertEqual(read_disk(again), lock)
                both.add(read_disk(whole) == lock)
        self.assertEqual(both, {True, False})

    def test_what_was_there_can_be_had_again(self):
        rng = random.Random(1917)
        for disk, lock in cases(rng, 300):
            if meaning(disk) != lock:
                done = written(disk, install_steps(disk, lock))
                self.assertEqual((done[0][0], earlier_lock(done)), ("done", meaning(disk)))
                back = written(done, undo_steps(done))
                self.assertEqual((read_disk(back), earlier_lock(back)), (meaning(disk), lock))


if __name__ == "__main__":
    unittest.main()
