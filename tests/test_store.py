"""[19]: the store, beside all cuts of WRITINGS gone through cell by cell."""

import itertools
import random
import unittest

from newestfit.errors import NoPaper, TooMany, Unfit
from newestfit.store import bad_cut, blank_disk, clean_steps, cut_behind, cut_disks, earlier_lock, end_disks
from newestfit.store import install_steps, is_bad_cut, is_disk, is_safe, is_writing, mend_steps, mended, needless_steps
from newestfit.store import read_disk, read_locks, room_changes, undo_steps, written
from stores import A, B, HEAD, SYNC, TORN, ahead_of, bad_ones, cells_of, disk_of, made_lock, made_writing, meaning
from stores import plain_cuts, tame_disk, wild_disk
from support import Case, ODD_THINGS, ONE, TWO, as_lists, bent, has_lists

OF_DISK = (read_disk, earlier_lock, mend_steps, mended, undo_steps, clean_steps)
OF_WRITING = (cut_disks, end_disks, read_locks)
OF_LOCK = (is_safe, bad_cut, needless_steps)


class Shapes(Case):
    def test_disks(self):
        whole = (("go", 2), (("note", 0, (), A), TORN, ()), (A, (), TORN, B))
        self.knows(is_disk, [whole, ((), ((),), ((),)), (TORN, (TORN,), (TORN,)), (("done", 99), (("note", 77, B, ()),), (B, B))])
        self.bars(is_disk, bent(whole))
        for head in (("go",), ("go", 0), ("go", -1), ("go", True), ("done", None), ("torn", 1), "torn", ("gone", 1), None):
            self.bars(is_disk, [(head, ((),), ((),))])
        for note in (("note", -1, (), ()), ("note", 0, TORN, ()), ("note", 0, (), TORN), ("note", 0, ()), ("note", True, (), ()),
                     ("has", ("a", ""), ONE), None, ("note", 0, ("has", ("a", ""), None), ())):
            self.bars(is_disk, [((), (note,), ((),))])
        for room in (("has", ("a", ""), ONE, 1), ("has", ("a",), ONE), ("has", ("A", ""), ONE), ("note", 0, (), ()), "", 0):
            self.bars(is_disk, [((), ((),), (room,))])
        self.bars(is_disk, [((), (), ((),)), ((), ((),), ()), ((), ((),)), ((), ((),), ((),), ())])

    def test_writings(self):
        disk = blank_disk(2, 3)
        whole = (("put", HEAD, ("go", 1)), SYNC, ("put", ("note", 1), ("note", 9, (), A)), ("put", ("room", 2), A), SYNC, SYNC)
        self.knows(is_writing, [whole, (), (SYNC,), (("put", HEAD, ()), ("put", ("note", 0), ()), ("put", ("room", 0), ()))],
                   disk=disk)
        self.bars(is_writing, bent(whole), disk=disk)
        for step in (("put", ("head", 1), ()), ("put", HEAD, TORN), ("put", ("note", 2), ()), ("put", ("note", -1), ()),
                     ("put", ("room", 3), ()), ("put", ("room", 0), TORN), ("put", ("note", 0), TORN), ("put", ("room", True), ()),
                     ("put", ("room", 0), ("go", 1)), ("put", HEAD, A), ("put", ("note", 0), A), ("put", ("desk", 0), ()),
                     ("put", HEAD), ("sync", 1), ("take", HEAD, ()), ("put", ("room", 0), ("note", 0, (), ()))):
            self.bars(is_writing, [(step,), (SYNC, step)], disk=disk)
        # Whatever the DISK, also one that cannot be read.
        self.knows(is_writing, [(("put", ("room", 0), A),), ()], disk=(("go", 5), ((),), (TORN,)))
        self.assertIs(is_writing(as_lists(disk), whole), True)
        self.bars(is_writing, [(("put", ("room", 1), A),)], disk=(("go", 5), ((),), (TORN,)))

    def test_blank_disks(self):
        self.says(((), ((), ()), ((),)), blank_disk, notes=2, rooms=1)
        self.says((), read_disk, disk=blank_disk(8, 8))
        self.says(None, earlier_lock, disk=blank_disk(8, 8))


class Meaning(Case):
    def test_drawn_disks(self):
        rng, seen = random.Random(1901), [0, 0, 0]
        for k in range(2000):
            disk = wild_disk(rng) if k % 2 else tame_disk(rng)
            self.assertIs(is_disk(disk), True)
            if meaning(disk) is None:
                for function in OF_DISK[:5]:
                    with self.assertRaises(Unfit):
                        function(disk)
                seen[0] += 1
                continue
            self.same(read_disk(disk), meaning(disk))
            self.same(earlier_lock(disk), ahead_of(disk))
            seen[1 + (ahead_of(disk) is not None)] += 1
        self.assertGreater(min(seen), 200, seen)

    def test_they_say(self):
        notes = (("note", 0, (), A), ("note", 2, B, ()))
        lock = ((("a", ""), ONE),)
        # What is told lies over what lies there, torn or not, if HEAD is go.
        self.says(lock, read_disk, disk=(("go", 2), notes, (TORN, (), TORN)))
        self.says(((("b", ""), TWO),), earlier_lock, disk=(("go", 2), notes, (TORN, (), TORN)))
        self.says(lock, read_disk, disk=(("done", 2), notes, (A, (), ())))
        self.says(((("b", ""), TWO),), earlier_lock, disk=(("done", 2), notes, (A, (), ())))
        self.says(lock, read_disk, disk=(TORN, notes, (A, (), ())))
        self.says(None, earlier_lock, disk=(TORN, notes, (A, (), ())))
        self.says((), read_disk, disk=((), notes, ((), (), ())))
        # HEAD done that tells none is fine, HEAD go that tells none is not.
        for bad in (("many", 3), ("torn", (notes[0], TORN)), ("empty", (notes[0], ())), ("turned", notes[::-1]),
                    ("twice", (notes[0], notes[0])), ("far", (notes[0], ("note", 3, (), ())))):
            told = notes if bad[0] == "many" else bad[1]
            many = 3 if bad[0] == "many" else 2
            self.says(None, earlier_lock, disk=(("done", many), told, (A, (), ())))
            self.says(lock, read_disk, disk=(("done", many), told, (A, (), ())))
            self.refuses(Unfit(), read_disk, disk=(("go", many), told, (A, (), ())))
        # Old words that can't be read together: an ITEM twice.
        self.says(None, earlier_lock, disk=(("done", 1), (("note", 0, B, A),), (A, B)))
        self.says(((("a", ""), ONE), (("b", ""), TWO)), read_disk, disk=(("done", 1), (("note", 0, B, A),), (A, B)))

    def test_disks_that_cannot_be_read(self):
        for disk in (((), ((),), (TORN,)), (TORN, ((),), (A, A)), (("go", 1), ((),), ((),)), (("done", 1), ((),), (TORN,)),
                     (("go", 1), (("note", 0, (), A),), (TORN, A)), (("go", 2), (("note", 0, (), A),), (A,))):
            for function in OF_DISK:
                self.refuses(Unfit(), function, disk=disk)
            crowd = tuple([("put", ("room", 0), ("has", ("a", ""), (k, 0, 0, 0))) for k in range(1200)])
            for function in (*OF_WRITING, written):
                self.refuses(Unfit(), function, disk=disk, writing=crowd)
                self.refuses(Unfit(), function, disk=disk, writing=())
            for function in OF_LOCK:
                self.refuses(Unfit(), function, disk=disk, writing=(), lock=())
                self.refuses(Unfit(), function, disk=disk, writing=crowd[:3], lock=())
            self.refuses(Unfit(), is_bad_cut, disk=disk, writing=crowd, lock=(), thing=5)
            self.refuses(Unfit(), cut_behind, disk=disk, writing=(), many=0)
            for function in (room_changes, install_steps):
                self.refuses(Unfit(), function, disk=disk, lock=())


class Cuts(Case):
    def test_beside_all_cuts(self):
        rng, seen = random.Random(1902), [0, 0, 0]
        for _ in range(250):
            disk = tame_disk(rng)
            writing = made_writing(rng, disk)
            self.assertIs(is_writing(disk, writing), True)
            cuts, ends = plain_cuts(disk, writing)
            self.same(cut_disks(disk, writing), tuple(sorted(cuts)))
            self.same(end_disks(disk, writing), tuple(sorted(ends)))
            self.same(read_locks(disk, writing), tuple(sorted({meaning(own) for own in cuts} - {None})))
            puts = [step for step in writing if step != SYNC]
            self.same(written(disk, writing), disk_of({**cells_of(disk), **{place: word for _, place, word in puts}}))
            for many in range(len(puts) + 2):
                told = cut_behind(disk, writing, many)
                self.assertIn(told, cuts)
                cells = {**cells_of(disk), **{place: word for _, place, word in puts[:many]}}
                cells.update({puts[many][1]: TORN} if many < len(puts) else {})
                self.same(told, disk_of(cells))
            seen = [seen[0] + (len(cuts) > 5), seen[1] + (len(ends) > 1), seen[2] + (len(puts) > len({own[1] for own in puts}))]
        self.assertGreater(min(seen), 40, seen)

    def test_safe_and_bad_ones(self):
        rng, seen = random.Random(1903), [0, 0]
        for _ in range(250):
            disk = tame_disk(rng)
            writing = made_writing(rng, disk)
            lock = rng.choice((meaning(disk), made_lock(rng, len(disk[2])), meaning(written(disk, writing)) or ()))
            bad = bad_ones(disk, writing, lock)
            self.assertIs(is_safe(disk, writing, lock), not bad)
            seen[bool(bad)] += 1
            for own in itertools.islice(plain_cuts(disk, writing)[0], 20):
                self.assertIs(is_bad_cut(disk, writing, lock, own), own in bad)
            if bad:
                told = bad_cut(disk, writing, lock)
                self.assertIn(told, bad)
                self.assertFalse(has_lists(told))
                self.same(bad_cut(as_lists(disk), as_lists(writing), as_lists(lock)), told)
                self.bars(is_bad_cut, [*bent(told), *ODD_THINGS[:20]], disk=disk, writing=writing, lock=lock)
            else:
                with self.assertRaises(NoPaper):
                    bad_cut(disk, writing, lock)
        self.assertGreater(min(seen), 40, seen)

    def test_needless_steps(self):
        rng, seen = random.Random(1904), [0, 0]
        for _ in range(120):
            disk = tame_disk(rng)
            writing = made_writing(rng, disk)
            lock = rng.choice((meaning(disk), meaning(written(disk, writing)) or ()))
            shorter = [writing[:k] + writing[k + 1:] for k in range(len(writing))]
            if any(plain_cuts(disk, own) is None for own in shorter):
                with self.assertRaises(TooMany):
                    needless_steps(disk, writing, lock)
                continue
            expected = tuple([k for k, own in enumerate(shorter) if not bad_ones(disk, own, lock)])
            self.same(needless_steps(disk, writing, lock), expected)
            seen[bool(expected)] += 1
        self.assertGreater(min(seen), 8, seen)

    def test_without_syncs_and_with_empty_stretches(self):
        disk, lock = blank_disk(1, 2), ((("a", ""), ONE),)
        put = ("put", ("room", 0), A)
        other = ((), ((),), (A, ()))
        torn = ((), ((),), (TORN, ()))
        self.says((disk, other, torn), cut_disks, disk=disk, writing=(put,))
        self.says((disk, other, torn), end_disks, disk=disk, writing=(put,))
        self.says((other,), end_disks, disk=disk, writing=(put, SYNC))
        self.says((disk,), cut_disks, disk=disk, writing=(SYNC, SYNC))
        self.says((disk,), end_disks, disk=disk, writing=())
        self.says(((), lock), read_locks, disk=disk, writing=(put, SYNC))
        self.says(True, is_safe, disk=disk, writing=(), lock=())
        self.says(False, is_safe, disk=disk, writing=(put, SYNC), lock=lock)
        # Right as it is, but no end: it does not mean the LOCK, though what it means is ahead of it.
        still = (("done", 1), (("note", 0, A, A),), (A,))
        self.says(False, is_safe, disk=still, writing=(), lock=())
        self.says(True, is_bad_cut, disk=still, writing=(), lock=(), thing=still)
        self.says(True, is_safe, disk=still, writing=(), lock=lock)
        # Several puts of one cell: any of their words may lie there.
        twice = (("put", ("room", 0), B), put, put, ("put", ("room", 0), ()))
        self.assertEqual(len(cut_disks(disk, twice)), 4)
        self.says(disk, written, disk=disk, writing=twice)

    def test_just_too_many(self):
        disk = blank_disk(8, 8)
        puts = [("put", ("room", k), ("has", ("a", ""), ONE)) for k in range(7)]
        self.assertEqual(len(cut_disks(disk, tuple(puts[:6]))), 3 ** 6)
        for function in OF_WRITING:
            self.refuses(TooMany(), function, disk=disk, writing=tuple(puts))
            self.refuses(TooMany(), function, disk=disk, writing=(SYNC, *puts, SYNC))
        for function in OF_LOCK[:2]:
            self.refuses(TooMany(), function, disk=disk, writing=tuple(puts), lock=())
        self.refuses(TooMany(), is_bad_cut, disk=disk, writing=tuple(puts), lock=(), thing=disk)
        # Without any one of its steps it has few enough.
        self.says((), needless_steps, disk=disk, writing=tuple(puts), lock=())
        self.refuses(TooMany(), needless_steps, disk=disk, writing=(*puts, SYNC), lock=())
        # 10 words in each of three cells are 1,000 DISKS, one more word is too many.
        many = [("put", ("room", k), ("has", ("a", ""), (n, 0, 0, 0))) for k in range(3) for n in range(8)]
        self.assertEqual(len(cut_disks(disk, tuple(many))), 1000)
        self.refuses(TooMany(), end_disks, disk=disk, writing=(*many, puts[0][:2] + (B,)))
        # What lies there already, or is told twice, is no more unlike.
        self.assertEqual(len(cut_disks(disk, (*many, *many, ("put", ("room", 0), ())))), 1000)
        self.refuses(TooMany(), cut_disks, disk=disk, writing=(*many, ("put", HEAD, ())))


if __name__ == "__main__":
    unittest.main()
