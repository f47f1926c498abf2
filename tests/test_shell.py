"""[24]: the shell, beside a play of its own; sessions cut into parts, undone and redone; disks cut and mended."""

import itertools
import random
import re
import unittest

from newestfit.errors import BadLine, BadText, NoName, NoPaper, NoRelease, TooMany, Unfit
from newestfit.shell import first_shell, house_after, is_request, requests, session, told, worked
from newestfit.store import blank_disk, cut_behind, earlier_lock, install_steps, mended, read_disk, written
from newestfit.texts import lock_text, need_text, read_need, registry_text, wish_text
from models import OVER, fitting_locks, plain_lean
from plain import PlainAsks, item_of, item_word, plain_asks, plainly_held, version_of
from stores import TORN, meaning
from support import Case, EVERY, NO, ODD_THINGS, ONE, TWO, YES, as_lists, half_lists, has_lists, plainly_fits, subsets

SHELF = (("app", ONE, (("lib", EVERY, (), YES),), (), (), False), ("lib", ONE, (), (), (), False), ("lib", TWO, (), (), (), False))
NONE = ((), (), ())
EMPTY = ((), NONE, None, blank_disk(8, 8))
WISH = ((("app", EVERY, (), YES),), (), ())
LOCK, OLD = ((("app", ""), ONE), (("lib", ""), TWO)), ((("app", ""), ONE), (("lib", ""), ONE))
HOUSE = (SHELF, WISH, LOCK, blank_disk(8, 8))
BARE = (SHELF, WISH, None, blank_disk(8, 8))
DEEDS = ("registry\n ", "wish\n wish", "add lib *", "drop lib", "word win", "early lib", "pull lib 1.0.0", "lock", "keep", "install", "cut 0",
         "mend")
LOOKS = ("status", "show", "wished", "disk", "why lib", "why lib/fast", "blame")
STEPS = ("undo", "redo")
FINE = (*DEEDS, *LOOKS, *STEPS, "registry\n nonsense\n ", "wish\n  ", "add x", "add ) ( !", "cut 9999", "cut 10", "word word", "why a/b",
        "pull pull 0.0.0-9", "drop registry", "word wish", "early lock", "why undo", "why wish/add", "add wish", "add wish *", "registry\n " + "x" * 300)
WRONG = ("", " ", "\n", "registry", "wish", "wish ", "registry ", "registry x\n release a 1.0.0", "wish\n", "wish\n\n ", "wish\nneed a *", "add",
         "add ", "add  lib *", "add lib * ", "add lib *\n more", "drop", "drop A", "drop a b", "drop a/b", "word", "word a,b", "early 1", "pull a",
         "pull a 1.0", "pull a 1.0.0 1", "pull a/b 1.0.0", "lock ", " lock", "lock now", "lock\n ", "Lock", "locks", "cut", "cut 007", "cut 12345",
         "cut -1", "cut 00", "cut +1", "cut 1.0", "cut 1 2", "mend 1", "status all", "show\n x", "why", "why a/", "why /a", "why a/b/c",
         "why a b", "why A", "blame 0", "undo 1", "undo\n ", "redo ", "fetch", "undo\nredo", "lock\n", "cut \u0661", "add a\tb\n", "lock\r")


class Play:
    """A play of its own: the HOUSE, and what was there ahead and behind, as lists."""

    def __init__(self):
        self.house, self.past, self.later = EMPTY, [], []

    def shell(self):
        return self.house, tuple(self.past), tuple(self.later)

    def reply(self, request):
        head, *lines = request.split("\n")
        word, *rest = head.split(" ")
        if word in STEPS:
            ahead, behind = (self.past, self.later) if word == "undo" else (self.later, self.past)
            if not ahead:
                return "refused NothingDone"
            done, house = ahead.pop()
            behind.append((done, self.house))
            self.house = house
            return done
        try:
            looked = self.look(word, rest)
            if looked is not None:
                return looked or "-"
            house = self.deed(word, rest, "\n".join([line[1:] for line in lines]))
        except Refused as refused:
            return f"refused {refused}"
        self.past.append((word, self.house))
        self.house, self.later = house, []
        return "done"

    def look(self, word, rest):
        registry, wish, lock, disk = self.house
        if word in ("show", "why") and lock is None:
            raise Refused("Unfit")
        if word == "status":
            if lock is None:
                return "none"
            best = fitting_locks(registry, wish)[:1]
            return "best" if [lock] == best else "fits" if plainly_fits(registry, wish, lock) else "broken"
        if word == "blame":
            found = [own for own in subsets(range(len(wish[0]))) if own in PlainAsks(registry, wish, ()).clashing]
            if not found:
                raise Refused("NoPaper")
            return " ".join(map(str, min(found, key=lambda own: (len(own), own))))
        if word == "why":
            if not plainly_fits(registry, wish, lock):
                raise Refused("Unfit")
            if item_of(rest[0]) not in dict(lock):
                raise Refused("NoName")
            rows = sorted({own[:2] for own in plain_asks(registry, wish, lock) if own[2] == item_of(rest[0])})
            return ", ".join([f"{item_word(asker) if asker else 'wish'} {k}" for asker, k in rows])
        return {"show": lambda: lock_text(lock), "wished": lambda: wish_text(wish), "disk": lambda: lock_text(meaning(disk))}.get(
            word, lambda: None)()

    def deed(self, word, rest, text):
        registry, (needs, words, early), lock, disk = self.house
        wish = (needs, words, early)
        if word == "registry":
            registry = self.thing(word, text, "BadLine")
        elif word == "wish":
            wish = self.thing(word, text, "BadLine")
        elif word == "add":
            wish = ((*needs, self.thing(word, " ".join(rest), "BadText")), words, early)
        elif word == "drop":
            kept = tuple([need for need in needs if need[0] != rest[0]])
            if kept == needs:
                raise Refused("NoName")
            wish = (kept, words, early)
        elif word == "word":
            wish = (needs, tuple(sorted({*words} ^ {rest[0]})), early)
        elif word == "early":
            wish = (needs, words, tuple(sorted({*early} ^ {rest[0]})))
        elif word == "pull":
            registry = self.pulled(registry, rest[0], version_of(rest[1]))
        elif word in ("lock", "keep"):
            lock = self.locked(word, registry, wish, lock)
        else:
            disk = self.stored(word, rest, lock, disk)
        return registry, wish, lock, disk

    def thing(self, word, text, error):
        """What has this text."""
        if text not in TEXTS[word]:
            raise Refused(error)
        return TEXTS[word][text]

    def pulled(self, registry, name, version):
        if name not in [own[0] for own in registry]:
            raise Refused("NoName")
        if (name, version) not in [own[:2] for own in registry]:
            raise Refused("NoRelease")
        return tuple([(*own[:5], True) if own[:2] == (name, version) else own for own in registry])

    def locked(self, word, registry, wish, lock):
        if word == "keep" and lock is None:
            raise Refused("Unfit")
        fitting = fitting_locks(registry, wish)
        if not fitting:
            raise Refused("NoPaper")
        if word == "lock":
            return fitting[0]
        kept = plainly_held(registry, wish, lock)
        return tuple([pair for pair in kept if pair[0] in plain_lean(registry, wish, kept)[0]])

    def stored(self, word, rest, lock, disk):
        if word == "mend":
            return mended(disk)
        if lock is None:
            raise Refused("Unfit")
        steps = install_steps(disk, lock)
        return written(disk, steps) if word == "install" else cut_behind(disk, steps, int(rest[0]))


class Refused(Exception):
    pass


# What the texts in drawn sessions tell.
REGISTRIES = (SHELF, (), SHELF + (("lib", (3, 0, 0, -1), (), (("fast", ()),), (("app", ((TWO, None),)),), False),),
              (("app", ONE, (("lib", ((TWO, None),), ("fast",), YES), ("net", EVERY, (), ("on", "win"))), (), (), False),
               ("app", TWO, (("lib", ((ONE, TWO),), (), YES),), (), (), False), ("lib", ONE, (), (), (), False),
               ("lib", TWO, (), (("fast", (("net", EVERY, (), YES),)),), (), False), ("net", ONE, (), (), (("lib", ((ONE, TWO),)),), False)))
WISHES = (NONE, WISH, (WISH[0], ("win",), ("lib",)), ((("lib", ((ONE, TWO),), (), YES), ("app", EVERY, (), NO)), (), ()))
NEEDS = (("lib", EVERY, (), YES), ("lib", ((TWO, None),), (), YES), ("lib", ((ONE, TWO),), (), ("on", "win")), ("app", EVERY, (), YES),
         ("net", EVERY, (), YES), ("lib", EVERY, ("fast",), YES), ("zoo", EVERY, (), YES))
TEXTS = {"registry": {registry_text(own): own for own in REGISTRIES}, "wish": {wish_text(own): own for own in WISHES},
         "add": {need_text(own): own for own in NEEDS}}


def with_text(word, text):
    return "\n ".join([word, *text.split("\n")])


def made_requests(rng, many):
    found = [with_text("registry", registry_text(rng.choice(REGISTRIES)))]
    needs = 0
    for _ in range(many - 1):
        kind = rng.random()
        if kind < 0.06:
            found.append(with_text("registry", registry_text(rng.choice(REGISTRIES))))
        elif kind < 0.12:
            found.append(with_text("wish", wish_text(rng.choice(WISHES))))
        elif kind < 0.3 and needs < 8:
            needs += 1
            found.append(f"add {need_text(rng.choice(NEEDS))}")
        elif kind < 0.45:
            found.append(rng.choice(("undo", "undo", "redo")))
        elif kind < 0.5:
            found.append(rng.choice(("registry\n lock", "wish\n ", "add lib", "add lib * if", "drop zoo", "pull zoo 1.0.0", "pull lib 7.0.0")))
        else:
            found.append(rng.choice((
                "lock", "lock", "keep", "install", f"cut {rng.randint(0, 12)}", "mend", "status", "show", "wished", "disk", "why lib", "why app",
                "why lib/fast", "why net", "blame", "word win", "early lib", "drop lib", "drop app", "pull lib 2.0.0", "pull app 2.0.0")))
    return found


class Requests(Case):
    def test_one_request(self):
        self.knows(is_request, FINE)
        self.bars(is_request, WRONG)
        self.bars(is_request, [as_lists(("lock",)), ("lock",), b"lock"[:0], None])
        # The first line by one pattern.
        pattern = re.compile("(registry|wish)(\n [^\n]*)+|add( [^ \n]+)+|(drop|word|early) N|pull N V|lock|keep|install|cut K|mend"
                             "|status|show|wished|disk|why N(/N)?|blame|undo|redo".replace("N", "[a-z]{1,12}").replace(
                                 "V", r"(0|[1-9]\d*)(\.(0|[1-9]\d*)){2}(-[1-9])?").replace("K", "(0|[1-9][0-9]{0,3})"))
        rng = random.Random(2401)
        for _ in range(4000):
            text = rng.choice(FINE)
            for _ in range(rng.randint(0, 2)):
                at = rng.randrange(len(text) + 1)
                text = text[:at] + rng.choice((" ", "\n", "\n ", "a", "0", "/", "", "lock")) + text[at + rng.randint(0, 1):]
            self.assertIs(is_request(text), bool(pattern.fullmatch(text)), text)

    def test_many_requests(self):
        rng = random.Random(2402)
        for _ in range(200):
            rows = [rng.choice(FINE) for _ in range(rng.randint(1, 6))]
            self.says(rows, requests, text="\n".join(rows))
            number = sum(len(row.split("\n")) for row in rows) + 1
            for bad in ("", "fetch", "lock\n ", "registry", "cut 01"):
                self.refuses(BadLine(number), requests, text="\n".join([*rows, bad]))
                self.refuses(BadLine(number), requests, text="\n".join([*rows, bad, "fetch"]))
        self.says([], requests, text="")
        for number, text in ((1, "\n"), (1, " "), (1, " lock"), (1, "\nlock"), (2, "lock\n"), (1, "lock\n x"), (1, "wish\nlock"), (2, "lock\nwish"),
                             (4, "wish\n \n \n\nlock"), (3, "lock\nundo\nundo 2\nlock")):
            self.refuses(BadLine(number), requests, text=text)
        self.says(["wish\n  ", "lock"], requests, text="wish\n  \nlock")

    def test_other_strings(self):
        for house in (EMPTY, HOUSE):
            for request in (*LOOKS, *STEPS, *WRONG):
                self.refuses(Unfit(), house_after, house=house, request=request)
            for request in (*DEEDS, *STEPS, *WRONG):
                self.refuses(Unfit(), told, house=house, request=request)
        for request in WRONG:
            self.refuses(Unfit(), worked, shell=first_shell(), request=request)


class Deeds(Case):
    def test_what_they_change(self):
        registry, wish, lock, disk = HOUSE
        need = ("lib", ((TWO, None),), ("fast",), ("on", "win"))
        done = written(disk, install_steps(disk, lock))
        rows = (
            ("registry\n release a 1.0.0", ((("a", ONE, (), (), (), False),), wish, lock, disk)),
            ("registry\n ", ((), wish, lock, disk)),
            ("wish\n wish\n  words a,b\n  need a *", (registry, ((("a", EVERY, (), YES),), ("a", "b"), ()), lock, disk)),
            ("add lib >=2.0.0 with fast if win", (registry, (wish[0] + (need,), (), ()), lock, disk)),
            ("drop app", (registry, NONE, lock, disk)), ("word win", (registry, (wish[0], ("win",), ()), lock, disk)),
            ("early lib", (registry, (wish[0], (), ("lib",)), lock, disk)),
            ("pull lib 2.0.0", ((*registry[:2], (*registry[2][:5], True)), wish, lock, disk)),
            ("lock", HOUSE), ("keep", HOUSE), ("install", (registry, wish, lock, done)),
            ("cut 0", (registry, wish, lock, ((), (("torn",),) + ((),) * 7, ((),) * 8))),
            ("cut 99", (registry, wish, lock, done)), ("mend", HOUSE))
        for request, house in rows:
            self.says(house, house_after, house=HOUSE, request=request)
            self.same(worked((HOUSE, (), ()), request), ((house, ((request.split("\n")[0].split(" ")[0], HOUSE),), ()), "done"))
        both = (registry, (wish[0], ("lin", "win"), ("app", "lib")), lock, disk)
        self.says((registry, (wish[0], ("lin",), ("app", "lib")), lock, disk), house_after, house=both, request="word win")
        self.says((registry, (wish[0], ("lin", "win"), ("lib",)), lock, disk), house_after, house=both, request="early app")
        self.says((registry, (wish[0], ("lin", "mac", "win"), ("app", "lib")), lock, disk), house_after, house=both, request="word mac")
        many = (registry, (wish[0] + (need,) + wish[0], (), ()), lock, disk)
        self.says((registry, ((need,), (), ()), lock, disk), house_after, house=many, request="drop app")
        # NAMES may be what requests begin with.
        for word in ("registry", "wish", "add", "drop", "word", "early", "pull", "lock", "keep", "install", "cut", "mend", "undo", "status", "show",
                     "wished", "disk", "why", "blame"):
            self.says((registry, (wish[0], (word,), ()), lock, disk), house_after, house=HOUSE, request=f"word {word}")
            self.says((registry, (wish[0], (), (word,)), lock, disk), house_after, house=HOUSE, request=f"early {word}")
            self.refuses(NoName(word), house_after, house=HOUSE, request=f"drop {word}")
            self.refuses(NoName(word), house_after, house=HOUSE, request=f"pull {word} 1.0.0")
            self.refuses(NoName(word), told, house=HOUSE, request=f"why {word}")
            self.same(worked((HOUSE, (), ()), f"word {word}")[0][1], (("word", HOUSE),))
        # keep holds on to what is there.
        self.says((registry, wish, OLD, disk), house_after, house=(registry, wish, OLD, disk), request="keep")
        self.says(HOUSE, house_after, house=(registry, wish, OLD, disk), request="lock")

    def test_what_they_raise(self):
        for request, error in (
                ("registry\n lock", BadLine(1)), ("registry\n release a 1.0.0\n release a 1.0.0", BadLine(2)), ("registry\n \n ", BadLine(1)),
                ("wish\n ", BadLine(1)), ("wish\n wish\n need a *", BadLine(2)), ("wish\n wish\n  need a", BadLine(2)), ("add lib", BadText(1)),
                ("add lib * if", BadText(3)), ("add )", BadText(0)), ("drop lib", NoName("lib")), ("pull zoo 1.0.0", NoName("zoo")),
                ("pull lib 3.0.0", NoRelease((3, 0, 0, 0)))):
            self.refuses(error, house_after, house=HOUSE, request=request)
            self.same(worked((HOUSE, (("lock", BARE),), (("keep", BARE),)), request),
                      ((HOUSE, (("lock", BARE),), (("keep", BARE),)), f"refused {type(error).__name__}"))
        for request in ("keep", "install", "cut 3"):
            self.refuses(Unfit(), house_after, house=BARE, request=request)
        hopeless = (SHELF, ((("zoo", EVERY, (), YES),), (), ()), LOCK, blank_disk(1, 1))
        for request in ("lock", "keep"):
            self.refuses(NoPaper(), house_after, house=hopeless, request=request)
        # Too few ROOMS.
        for request in ("install", "cut 0"):
            self.refuses(Unfit(), house_after, house=hopeless, request=request)
        wide = (OVER, NONE, (), blank_disk(1, 1))
        for request in ("lock", "keep"):
            self.refuses(TooMany(), house_after, house=wide, request=request)
        # A DISK that cannot be read.
        torn = (SHELF, WISH, LOCK, ((), ((),), (TORN,)))
        for request in ("install", "cut 0", "mend"):
            self.refuses(Unfit(), house_after, house=torn, request=request)
        self.refuses(Unfit(), told, house=torn, request="disk")

    def test_looks(self):
        parted = (("app", ONE, (("app", EVERY, ("x",), YES),), (("x", ()),), (), False),)
        own = (parted, WISH, ((("app", ""), ONE), (("app", "x"), ONE)), blank_disk(1, 1))
        for house, request, expected in (
                (BARE, "status", "none"), (HOUSE, "status", "best"), (HOUSE[:2] + (OLD, HOUSE[3]), "status", "fits"),
                (HOUSE[:2] + ((), HOUSE[3]), "status", "broken"), (HOUSE, "show", lock_text(LOCK)), (HOUSE[:2] + ((), HOUSE[3]), "show", "lock"),
                (HOUSE, "wished", "wish\n need app *"), (EMPTY, "wished", "wish"), (EMPTY, "disk", "lock"), (HOUSE, "why lib", "app 0"),
                (HOUSE, "why app", "wish 0"), (own, "why app", "wish 0, app 0, app/x -1"), (own, "why app/x", "app 0"),
                ((SHELF, NONE, LOCK[1:], blank_disk(1, 1)), "why lib", "-"),
                ((SHELF, (WISH[0] + (("zoo", EVERY, (), YES),), (), ()), None, blank_disk(1, 1)), "blame", "1"),
                ((SHELF, (WISH[0] + NEEDS[1:2] + (("lib", ((ONE, TWO),), (), YES),), (), ()), None, blank_disk(1, 1)), "blame", "1 2")):
            self.says(expected, told, house=house, request=request)
            self.same(worked((house, (), (("lock", house),)), request), ((house, (), (("lock", house),)), expected))
        for request in ("show", "why lib"):
            self.refuses(Unfit(), told, house=BARE, request=request)
        self.refuses(NoPaper(), told, house=HOUSE, request="blame")
        self.refuses(NoName("zoo"), told, house=HOUSE, request="why zoo")
        self.refuses(NoName("lib"), told, house=HOUSE, request="why lib/fast")
        self.refuses(Unfit(), told, house=HOUSE[:2] + ((), HOUSE[3]), request="why zoo")
        wide = (OVER, NONE, (), blank_disk(1, 1))
        for request in ("status", "blame"):
            self.refuses(TooMany(), told, house=wide, request=request)
        # What does not fit is broken, however many there are.
        self.says("broken", told, house=(OVER, NONE, ((("zoo", ""), ONE),), blank_disk(1, 1)), request="status")


class Sessions(Case):
    def test_beside_a_play_of_its_own(self):
        rng, seen = random.Random(2403), {}
        for _ in range(120):
            rows, play = made_requests(rng, rng.randint(4, 30)), Play()
            replies = tuple([play.reply(row) for row in rows])
            shell, said = session(first_shell(), "\n".join(rows))
            self.same(said, replies)
            self.same(shell, play.shell())
            for row, reply in zip(rows, replies):
                kind = (row.split("\n")[0].split(" ")[0], reply if reply.startswith("refused") else "-")
                seen[kind] = seen.get(kind, 0) + 1
        self.assertGreater(len(seen), 30, seen)
        for reply in ("BadLine", "BadText", "NoName", "NoRelease", "NothingDone", "Unfit", "NoPaper"):
            self.assertTrue(any(own[1] == f"refused {reply}" for own in seen), reply)

    def test_worked_in_parts(self):
        rng = random.Random(2404)
        for _ in range(40):
            rows = made_requests(rng, 14)
            whole = session(first_shell(), "\n".join(rows))
            self.assertFalse(has_lists(whole))
            self.assertEqual(requests("\n".join(rows)), rows)
            cuts = sorted(rng.sample(range(len(rows) + 1), 3))
            shell, said = first_shell(), ()
            for low, high in itertools.pairwise([0, *cuts, len(rows)]):
                shell, more = session(rng.choice((shell, as_lists(shell), half_lists(shell))), "\n".join(rows[low:high]))
                said = said + more
            self.same((shell, said), whole)
            shell, said = first_shell(), ()
            for row in rows:
                shell, reply = worked(shell, row)
                said = (*said, reply)
            self.same((shell, said), whole)

    def test_undone_and_redone(self):
        rng = random.Random(2405)
        for _ in range(60):
            shell = session(first_shell(), "\n".join(made_requests(rng, 12)))[0]
            deed = rng.choice((*DEEDS, "lock", "install", "cut 3"))
            behind, reply = worked(shell, deed)
            if reply.startswith("refused"):
                self.same(behind, shell)
                continue
            self.assertEqual((behind[1], behind[2]), ((*shell[1], (deed.split("\n")[0].split(" ")[0], shell[0])), ()))
            back, word = worked(behind, "undo")
            self.assertEqual((back[0], back[1], word), (shell[0], shell[1], behind[1][-1][0]))
            self.same(worked(back, "redo"), (behind, word))
            # All the way back, and all the way on again.
            first, many = back, 0
            while first[1]:
                first, _ = worked(first, "undo")
                many += 1
            self.assertEqual(first[0], EMPTY)
            self.assertEqual(worked(first, "undo"), (first, "refused NothingDone"))
            again = session(first, "\n".join(["redo"] * many))[0] if many else first
            self.same(again, back)

    def test_lock_status_and_blame(self):
        rng, seen = random.Random(2406), set()
        for _ in range(80):
            rows = [row for row in made_requests(rng, 10) if row not in ("lock", "keep")]
            shell = session(first_shell(), "\n".join(rows))[0]
            locked, one = worked(shell, "lock")
            blamed = worked(shell, "blame")[1]
            self.assertEqual([one, blamed].count("refused NoPaper"), 1)
            if one == "done":
                self.assertEqual(worked(locked, "status")[1], "best")
            seen.add(one)
        self.assertEqual(len(seen), 2)
        wide = ((OVER, NONE, None, blank_disk(1, 1)), (), ())
        self.assertEqual([worked(wide, word)[1] for word in ("lock", "blame")], ["refused TooMany"] * 2)

    def test_cut_and_mended(self):
        rng, seen = random.Random(2407), set()
        for _ in range(60):
            shell = session(first_shell(), "\n".join(made_requests(rng, 12)))[0]
            shell = session(shell, "registry\n release app 1.0.0\n release lib 1.0.0\n release lib 2.0.0\nlock\n"
                            + rng.choice(("install", "word x")) + "\n" + rng.choice(("add lib =1.0.0", "wish\n wish\n  need app *")) + "\nlock")[0]
            lock = shell[0][2]
            if lock is None:
                continue
            ahead = worked(shell, "disk")[1]
            for many in range(14):
                cut, _ = worked(shell, f"cut {many}")
                whole, _ = worked(cut, "mend")
                self.assertIn(worked(cut, "disk")[1], (ahead, lock_text(lock)))
                self.assertEqual(worked(whole, "disk")[1], worked(cut, "disk")[1])
                self.assertEqual(worked(whole, "mend")[0][0], whole[0])
                seen.add((worked(whole, "disk")[1] == ahead, read_disk(whole[0][3]) == lock, earlier_lock(whole[0][3]) is None))
        self.assertGreaterEqual(len(seen), 4, seen)

    def test_they_say(self):
        self.same(first_shell(), (EMPTY, (), ()))
        self.says((first_shell(), ()), session, shell=first_shell(), text="")
        self.refuses(BadLine(2), session, shell=first_shell(), text="lock\nfetch\n")
        shell = (HOUSE, (("lock", BARE), ("word", EMPTY)), (("mend", BARE),))
        self.says(((EMPTY, (("lock", BARE),), (("mend", BARE), ("word", HOUSE))), "word"), worked, shell=shell, request="undo")
        self.says(((BARE, (("lock", BARE), ("word", EMPTY), ("mend", HOUSE)), ()), "mend"), worked, shell=shell, request="redo")
        self.says(((HOUSE, (*shell[1], ("mend", HOUSE)), ()), "done"), worked, shell=shell, request="mend")
        self.says((shell, "refused NoName"), worked, shell=shell, request="drop zoo")
        self.says((shell, "best"), worked, shell=shell, request="status")
        # Refused or looked at, what may be redone stays.
        self.says((shell, ("best", "refused NoPaper", "refused BadText")), session, shell=shell, text="status\nblame\nadd a")
        self.assertEqual(read_need("lib *"), NEEDS[0])
        self.assertFalse(any(is_request(thing) for thing in ODD_THINGS))


if __name__ == "__main__":
    unittest.main()
