"""[23]: texts, beside a writer and a reader of their own; texts spoilt line by line, word by word."""

import random
import re
import unittest

from newestfit.errors import BadLine, BadText
from newestfit.marks import is_mark_text, mark_text, read_mark
from newestfit.rangetexts import is_range_text, range_text, read_range
from newestfit.texts import lock_changed, lock_changes, lock_text, lock_turned, need_text, read_lock, read_need
from newestfit.texts import read_registry, read_wish, registry_text, wish_text
from models import made_lock, tame_cases
from plain import NAME, item_of, item_word, version_of
from support import Case, EARLY, EVERY, NAMES, NO, ONE, PARTS, TWO, YES, as_lists, has_lists, made_mark, made_range
from support import made_version, plain_text, small_cases

QUICK = (("fast", (("simd", EVERY, (), ("on", "lanes")),)),)
SHOP = (("json", ONE, (), (), (), False), ("json", TWO, (), QUICK, (), False), ("simd", ONE, (), (), (), False),
        ("web", ONE, (("json", EVERY, (), YES),), (), (), False),
        ("web", TWO, (("json", ((TWO, None),), ("fast",), YES),), (), (), False))
FULL = ((("json", ""), TWO), (("json", "fast"), TWO), (("simd", ""), ONE), (("web", ""), TWO))
STALE = ((("json", ""), ONE), (("simd", ""), ONE), (("web", ""), ONE))
ODD_LINES = ("", " ", "  ", "release", "release a", "release a 1.0.0 ", "release A 1.0.0", "release a 1.0", "wish", "lock", " pulled",
             " pulled ", " part", " part p", " part p q", "  need a *", " need", " need a", " need a *", " need a * if ()",
             " need a * with", " need a * with p,p", " need a * if x with p", " clash", " clash a *", " clash a * b", " words",
             " words a,b", " words b,a", " early a", " early", " a 1.0.0", " a/ 1.0.0", " a/p/q 1.0.0", " z/p 9.9.9-1", "\t",
             "   need a *", " a/p 1.0.0", "release zzz 0.0.0-9", " need zz ^1.0.0|none with p,q if [!x|(y&z)]")


def made_need(rng):
    parts = tuple(sorted(rng.sample(PARTS, rng.choice((0, 0, 1, 2)))))
    return (rng.choice(NAMES), made_range(rng), parts, rng.choice((YES, NO, made_mark(rng, ("lin", "win"), 3))))


def made_registry(rng):
    rows = []
    for name, version in sorted({(rng.choice(NAMES), made_version(rng)) for _ in range(rng.randint(0, 4))}):
        def needs(many):
            return tuple([made_need(rng) for _ in range(rng.randint(0, many))])

        parts = tuple([(part, needs(2)) for part in PARTS if rng.random() < 0.5])
        clashes = tuple([(rng.choice(NAMES), made_range(rng)) for _ in range(rng.randint(0, 2))])
        rows.append((name, version, needs(2), parts, clashes, rng.random() < 0.3))
    return tuple(rows)


def made_wish(rng):
    words, early = [tuple(sorted(rng.sample(NAMES, rng.choice((0, 1, 2))))) for _ in range(2)]
    return (tuple([made_need(rng) for _ in range(rng.randint(0, 3))]), words, early)


def plain_need(need):
    name, span, parts, mark = need
    return (f"{name} {range_text(span)}" + (f" with {','.join(parts)}" if parts else "")
            + (f" if {mark_text(mark)}" if mark != YES else ""))


def registry_lines(registry):
    for name, version, needs, parts, clashes, pulled in registry:
        yield f"release {name} {plain_text(version)}"
        if pulled:
            yield " pulled"
        for need in needs:
            yield f" need {plain_need(need)}"
        for part, inner in parts:
            yield f" part {part}"
            for need in inner:
                yield f"  need {plain_need(need)}"
        for other, span in clashes:
            yield f" clash {other} {range_text(span)}"


def wish_lines(wish):
    yield "wish"
    for word, names in (("words", wish[1]), ("early", wish[2])):
        if names:
            yield f" {word} {','.join(names)}"
    for need in wish[0]:
        yield f" need {plain_need(need)}"


def lock_lines(lock):
    return ["lock", *[f" {item_word(item)} {plain_text(version)}" for item, version in lock]]


def names_of(word):
    names = word.split(",")
    return tuple(names) if all(NAME.fullmatch(name) for name in names) and names == sorted(set(names)) else None


def need_of(text):
    """The NEED with this text, None without: all words at once."""
    told = re.fullmatch(r"([a-z]{1,12}) ([^ ]+)( with ([^ ]+))?( if ([^ ]+))?", text)
    if not told or not is_range_text(told[2]) or (told[4] and names_of(told[4]) is None):
        return None
    if told[6] and (not is_mark_text(told[6]) or told[6] == "()"):
        return None
    return (told[1], read_range(told[2]), names_of(told[4]) if told[4] else (), read_mark(told[6]) if told[6] else YES)


def plain_registry(lines):
    """The REGISTRY with these lines, None without: RELEASE by RELEASE, its lines by one pattern of their kinds."""
    blocks = []
    for line in lines:
        if line.startswith("release "):
            blocks.append([line])
        elif blocks:
            blocks[-1].append(line)
        else:
            return None
    found = [plain_release(block) for block in blocks]
    if None in found or [own[:2] for own in found] != sorted({own[:2] for own in found}):
        return None
    return tuple(found)


def plain_release(block):
    kinds = {"release": "r", " pulled": "u", " need": "n", " part": "p", "  need": "m", " clash": "c"}
    signs = ""
    for line in block:
        blanks = line[:len(line) - len(line.lstrip(" "))]
        signs += kinds.get(blanks + line.lstrip(" ").split(" ")[0], "?")
    if not re.fullmatch("ru?n*(pm*)*c*", signs):
        return None
    head = block[0].split(" ")
    if len(head) != 3 or not NAME.fullmatch(head[1]) or version_of(head[2]) is None:
        return None
    needs, parts, clashes = [], [], []
    for sign, line in zip(signs, block):
        rest = line.lstrip(" ").partition(" ")[2]
        if sign in "nm":
            (needs if sign == "n" else parts[-1][1]).append(need_of(rest))
        elif sign == "p":
            parts.append((rest, []))
        elif sign == "c":
            own = re.fullmatch("([a-z]{1,12}) ([^ ]+)", rest)
            clashes.append((own[1], read_range(own[2])) if own and is_range_text(own[2]) else None)
        elif sign == "u" and line != " pulled":
            return None
    names = [part for part, _ in parts]
    if not all(NAME.fullmatch(name) for name in names) or names != sorted(set(names)):
        return None
    if None in [*needs, *clashes, *[need for _, inner in parts for need in inner]]:
        return None
    return (head[1], version_of(head[2]), tuple(needs), tuple([(part, tuple(inner)) for part, inner in parts]), tuple(clashes),
            "u" in signs)


def plain_wish(lines):
    told = re.fullmatch("wish(\n words ([^ \n]+))?(\n early ([^ \n]+))?((\n need [^\n]+)*)", "\n".join(lines))
    if not told or any(word and names_of(word) is None for word in (told[2], told[4])):
        return None
    needs = [need_of(line[len(" need "):]) for line in told[5].split("\n")[1:]]
    return None if None in needs else (tuple(needs), *[names_of(word) if word else () for word in (told[2], told[4])])


def plain_lock(lines):
    if lines[:1] != ["lock"]:
        return None
    found = []
    for line in lines[1:]:
        own = re.fullmatch(" ([^ ]+) ([^ ]+)", line)
        if not own or item_of(own[1]) is None or version_of(own[2]) is None:
            return None
        found.append((item_of(own[1]), version_of(own[2])))
    items = [item for item, _ in found]
    return tuple(found) if items == sorted(set(items)) else None


KINDS = ((read_registry, plain_registry), (read_wish, plain_wish), (read_lock, plain_lock))


def spoilt(rng, lines):
    """These lines, changed in one place."""
    lines = list(lines)
    k = rng.randrange(len(lines) + 1)
    kind = rng.choice(("put", "take", "exchange", "blank", "sign", "word", "end", "twice"))
    if kind == "put" or not lines:
        lines.insert(k, rng.choice(ODD_LINES))
        return lines
    k = min(k, len(lines) - 1)
    n = rng.randrange(len(lines))
    if kind == "take":
        del lines[k]
    elif kind == "exchange":
        lines[k], lines[n] = lines[n], lines[k]
    elif kind == "twice":
        lines.insert(n, lines[k])
    elif kind == "end":
        lines.append("")
    else:
        lines[k] = spoilt_line(rng, lines[k], kind)
    return lines


def spoilt_line(rng, line, kind):
    at = rng.randrange(len(line) + 1)
    if kind == "blank":
        return rng.choice((line[:at] + " " + line[at:], line.replace(" ", "", 1), " " + line, line + " "))
    if kind == "sign":
        return line[:at] + rng.choice("aZ0/,.*-|") + line[at + rng.randint(0, 1):]
    words = line.split(" ")
    place = rng.randrange(len(words))
    more = rng.choice(("with", "if", "need", "p", "a,b", "b,a", "*", "1.0.0", "()", "[]", "%", "release", "clash", "none"))
    return " ".join(rng.choice((words[:place] + words[place + 1:], words[:place] + [more] + words[place:],
                                words[:place] + [more] + words[place + 1:], words + [more])))


class Written(Case):
    def test_each_reader_gives_back_what_was_written(self):
        rng = random.Random(2301)
        for _ in range(150):
            registry, wish = made_registry(rng), made_wish(rng)
            self.same(registry_text(registry), "\n".join(registry_lines(registry)))
            self.same(wish_text(wish), "\n".join(wish_lines(wish)))
            self.same(read_registry(registry_text(registry)), registry)
            self.same(read_wish(wish_text(wish)), wish)
            for need in wish[0]:
                self.same(need_text(need), plain_need(need))
                self.same(read_need(need_text(need)), need)
        for registry, wish in [*small_cases(rng, 20), *tame_cases(rng, 20)]:
            self.same(read_registry(registry_text(registry)), registry)
            self.same(read_wish(wish_text(wish)), wish)
            lock = made_lock(rng, registry, wish)
            self.same(lock_text(lock), "\n".join(lock_lines(lock)))
            self.same(read_lock(lock_text(lock)), lock)

    def test_each_beginning_of_the_lines(self):
        rng = random.Random(2302)
        for _ in range(60):
            registry, wish = made_registry(rng), made_wish(rng)
            lines = list(registry_lines(registry))
            for k in range(len(lines) + 1):
                own = read_registry("\n".join(lines[:k]))
                self.same(own, plain_registry(lines[:k]))
                self.same(registry_text(own), "\n".join(lines[:k]))
            lines = list(wish_lines(wish))
            for k in range(1, len(lines) + 1):
                self.same(wish_text(read_wish("\n".join(lines[:k]))), "\n".join(lines[:k]))
        lines = lock_lines(FULL)
        for k in range(1, len(lines) + 1):
            self.same(read_lock("\n".join(lines[:k])), FULL[:k - 1])

    def test_they_say(self):
        self.says("lock\n json 2.0.0\n json/fast 2.0.0\n simd 1.0.0\n web 2.0.0", lock_text, lock=FULL)
        self.says("lock", lock_text, lock=())
        self.says("", registry_text, registry=())
        self.says("wish", wish_text, wish=((), (), ()))
        self.says("wish\n words a,b\n early net\n need json *", wish_text, wish=((("json", EVERY, (), YES),), ("a", "b"), ("net",)))
        self.says("json >=2.0.0 with fast,safe if !lanes", need_text, need=("json", ((TWO, None),), ("fast", "safe"), ("not", ("on", "lanes"))))
        self.says("json none if []", need_text, need=("json", (), (), NO))
        self.says("release net 1.0.0-1\n pulled\n part p\n  need a *\n  need b * if x\n part q\n clash a none\n clash net *", registry_text,
                  registry=(("net", EARLY, (), (("p", (("a", EVERY, (), YES), ("b", EVERY, (), ("on", "x")))), ("q", ())),
                             (("a", ()), ("net", EVERY)), True),))
        self.same(read_registry(registry_text(as_lists(SHOP))), SHOP)


class Read(Case):
    def test_spoilt_texts(self):
        rng, fine, bad = random.Random(2303), 0, {}
        for _ in range(2500):
            read, plainly = rng.choice(KINDS)
            if read is read_registry:
                lines = list(registry_lines(made_registry(rng)))
            else:
                lines = list(wish_lines(made_wish(rng))) if read is read_wish else lock_lines(made_lock(rng, SHOP, ((), (), ())))
            for _ in range(rng.choice((1, 1, 1, 2))):
                lines = spoilt(rng, lines)
            text = "\n".join(lines)
            lines = text.split("\n") if text else []
            if plainly(lines) is not None:
                fine += 1
                self.same(read(text), plainly(lines))
                continue
            number = next(k for k in range(1, max(2, len(lines) + 1)) if plainly(lines[:k]) is None)
            self.refuses(BadLine(number), read, text=text)
            bad[number] = bad.get(number, 0) + 1
        self.assertGreater(fine, 100)
        self.assertGreater(min(bad.get(k, 0) for k in (1, 2, 3, 4, 5)), 50, bad)

    def test_each_beginning_sign_by_sign(self):
        rng = random.Random(2307)
        for _ in range(12):
            texts = ((registry_text(made_registry(rng)), *KINDS[0]), (wish_text(made_wish(rng)), *KINDS[1]), (lock_text(FULL), *KINDS[2]))
            for text, read, plainly in texts:
                for k in range(len(text) + 1):
                    lines = text[:k].split("\n") if k else []
                    if plainly(lines) is not None:
                        self.same(read(text[:k]), plainly(lines))
                        continue
                    # All lines but the last one stand there whole.
                    with self.assertRaises(BadLine) as caught:
                        read(text[:k])
                    self.assertEqual(caught.exception.number, max(1, len(lines)))

    def test_registries_say(self):
        for number, text in ((1, "\n"), (1, " "), (1, "release"), (1, "release a 1.0.0 pulled"), (1, " need a *"), (1, "wish"),
                             (2, "release a 1.0.0\n"), (1, "\nrelease a 1.0.0"), (2, "release a 1.0.0\n\n pulled"),
                             (2, "release a 1.0.0\nrelease a 1.0.0"), (2, "release b 1.0.0\nrelease a 2.0.0"),
                             (2, "release a 1.0.0\nrelease a 1.0.0-1"), (2, "release a 1.0.0\n  need b *"),
                             (3, "release a 1.0.0\n pulled\n pulled"), (3, "release a 1.0.0\n need b *\n pulled"),
                             (3, "release a 1.0.0\n part p\n need b *"), (3, "release a 1.0.0\n part p\n part p"),
                             (3, "release a 1.0.0\n part q\n part p"), (3, "release a 1.0.0\n clash b *\n part p"),
                             (4, "release a 1.0.0\n part p\n clash b *\n  need b *"), (3, "release a 1.0.0\n clash b *\n need b *"),
                             (2, "release a 1.0.0\n release b 1.0.0"), (2, "release a 1.0.0\n need b"), (2, "release a 1.0.0\n need b * if ()"),
                             (3, "release a 1.0.0\n part p\n   need b *"), (2, "release a 1.0.0\n clash b * if x"), (1, "release a 1.0.0\r")):
            self.refuses(BadLine(number), read_registry, text=text)
        self.says((), read_registry, text="")
        self.says((("a", ONE, (("b", (((1, 2, 0, 0), (2, 0, 0, -9)),), (), YES),), (), (), False),), read_registry,
                  text="release a 1.0.0\n need b ^1.2.0|=1.3.0")
        # The same NAME again, as a need, as a clash, in needs of one name.
        self.says((("a", ONE, (("a", EVERY, (), YES),) * 2, (), (("a", EVERY),) * 2, False),), read_registry,
                  text="release a 1.0.0\n need a *\n need a *\n clash a *\n clash a *")

    def test_wishes_and_locks_say(self):
        for number, text in ((1, ""), (1, "\nwish"), (1, " wish"), (1, "wish "), (1, "lock"), (2, "wish\n"), (2, "wish\n words"),
                             (2, "wish\n words b,a"), (2, "wish\n words a,a"), (2, "wish\n words a b"), (3, "wish\n early a\n words b"),
                             (3, "wish\n words a\n words b"), (3, "wish\n need a *\n words b"), (3, "wish\n need a *\n early b"),
                             (2, "wish\n  need a *"), (2, "wish\nneed a *"), (2, "wish\n need a 1.0.0"), (2, "wish\n words "),
                             (3, "wish\n early a\n early b"), (2, "wish\n need a * with"), (2, "wish\n words a,"), (2, "wish\n part p")):
            self.refuses(BadLine(number), read_wish, text=text)
        self.says(((("a", EVERY, (), YES), ("a", (), (), YES)), ("x",), ("y",)), read_wish,
                  text="wish\n words x\n early y\n need a *\n need a none")
        for number, text in ((1, ""), (1, "wish"), (2, "lock\n"), (2, "lock\n a"), (2, "lock\n a 1.0.0 "), (2, "lock\n  a 1.0.0"),
                             (2, "lock\na 1.0.0"), (3, "lock\n a 1.0.0\n a 2.0.0"), (3, "lock\n a/p 1.0.0\n a 1.0.0"),
                             (3, "lock\n b 1.0.0\n a 1.0.0"), (2, "lock\n a/ 1.0.0"), (2, "lock\n /a 1.0.0"), (2, "lock\n a/p/q 1.0.0"),
                             (2, "lock\n a 1.0"), (2, "lock\n a =1.0.0")):
            self.refuses(BadLine(number), read_lock, text=text)
        # ab stands behind a/z: ITEMS are put in order as pairs.
        self.says(((("a", ""), ONE), (("a", "z"), ONE), (("ab", ""), ONE)), read_lock, text="lock\n a 1.0.0\n a/z 1.0.0\n ab 1.0.0")
        self.refuses(BadLine(3), read_lock, text="lock\n ab 1.0.0\n a/z 1.0.0")

    def test_needs(self):
        rng, fine, bad = random.Random(2304), 0, {}
        for _ in range(1500):
            text = plain_need(made_need(rng))
            for _ in range(rng.randint(0, 2)):
                text = spoilt_line(rng, text, rng.choice(("blank", "sign", "word")))
            if need_of(text) is not None:
                fine += 1
                self.same(read_need(text), need_of(text))
                continue
            place = self.plain_place(text.split(" "))
            self.refuses(BadText(place), read_need, text=text)
            bad[place] = bad.get(place, 0) + 1
        self.assertGreater(fine, 300)
        self.assertGreater(min(bad.get(k, 0) for k in range(5)), 20, bad)

    def plain_place(self, words):
        """The number of the first word behind which nothing makes a NEED of it."""
        ends = ("", " *", " b", " x", " with b", " if x", " with b if x", " * with b")
        for k in range(1, len(words) + 1):
            begun = " ".join(words[:k])
            if all(need_of(begun + end) is None for end in ends):
                return k - 1
        return len(words)

    def test_needs_say(self):
        for place, text in ((0, ""), (0, " "), (0, "A *"), (1, "a"), (1, "a "), (1, "a 1.0.0"), (1, "a  *"), (2, "a * "), (2, "a * b"),
                            (3, "a * with"), (3, "a * with b,a"), (4, "a * with if x"), (4, "a * with b x"), (3, "a * if"), (3, "a * if ()"),
                            (3, "a * if (x|y)"), (4, "a * if x with b"), (4, "a * if x if y"), (5, "a * with b if"), (6, "a * with b if x y"),
                            (4, "a * with b with c"), (1, "need a *"), (0, " a *"), (2, "a *  if x"), (1, "a *\n"), (0, "a\n *")):
            # "need", "with" and "if" may be NAMES, too.
            self.refuses(BadText(place), read_need, text=text)
        self.says(("if", EVERY, ("with",), ("on", "if")), read_need, text="if * with with if if")
        self.says(("a", EVERY, (), ("not", ("any", ()))), read_need, text="a * if ![]")
        self.says(("a", EVERY, (), ("all", (YES,))), read_need, text="a * if (())")


class Changes(Case):
    def test_there_and_back(self):
        rng = random.Random(2305)
        for registry, wish in tame_cases(rng, 60):
            one, other = made_lock(rng, registry, wish), made_lock(rng, registry, wish)
            text = lock_changes(one, other)
            self.same(text, "\n".join(self.plain_changes(one, other)))
            self.same(lock_changed(one, text), other)
            self.same(lock_turned(text), lock_changes(other, one))
            self.same(lock_turned(lock_turned(text)), text)
            self.same(lock_changed(one, ""), one)
            self.assertFalse(has_lists(lock_changed(as_lists(one), text)))

    def plain_changes(self, one, other):
        near, far = dict(one), dict(other)
        for item in sorted({*near, *far}):
            if item not in near:
                yield f"+ {item_word(item)} {plain_text(far[item])}"
            elif item not in far:
                yield f"- {item_word(item)} {plain_text(near[item])}"
            elif near[item] != far[item]:
                yield f"~ {item_word(item)} {plain_text(near[item])} {plain_text(far[item])}"

    def plain_line(self, line, there):
        """The triple (ITEM, STATE, STATE) of a line of changes that goes on from there, a dict; None without."""
        told = re.fullmatch("([+-]) ([^ ]+) ([^ ]+)|~ ([^ ]+) ([^ ]+) ([^ ]+)", line)
        if not told:
            return None
        item = item_of(told[2] or told[4])
        one, other = version_of(told[3] or told[5]), version_of(told[6] or told[3])
        if item is None or one is None or other is None or (told[6] and one == other):
            return None
        row = {"+": (item, None, one), "-": (item, one, None)}.get(told[1], (item, one, other))
        return row if there is None or there.get(item) == row[1] else None

    def plainly_read(self, text, there):
        """How many first lines are fine, and the rows of these."""
        rows = []
        for line in text.split("\n") if text else []:
            row = self.plain_line(line, there)
            if row is None or (rows and row[0] <= rows[-1][0]):
                return rows, len(rows) + 1
            rows.append(row)
        return rows, None

    def test_spoilt_changes(self):
        rng, fine, bad = random.Random(2306), [0, 0], [0, 0]
        more = ("+ a 1.0.0", "- web 1.0.0", "~ web 1.0.0 2.0.0", "~ web 1.0.0 1.0.0", "- json 2.0.0", "+ json 1.0.0", "", "+ zz/p 0.0.1-3")
        for _ in range(800):
            one, other = made_lock(rng, SHOP, ((), (), ())), made_lock(rng, SHOP, ((), (), ()))
            lines = list(self.plain_changes(one, other))
            for _ in range(rng.randint(0, 2)):
                k = rng.randrange(len(lines) + 1)
                if lines and k < len(lines) and rng.random() < 0.7:
                    lines[k] = spoilt_line(rng, lines[k], rng.choice(("blank", "sign", "word")))
                else:
                    lines.insert(k, rng.choice(more))
            text = "\n".join(lines)
            for k, there in enumerate((dict(one), None)):
                rows, number = self.plainly_read(text, there)
                given = {"lock": one, "text": text} if k == 0 else {"text": text}
                function = (lock_changed, lock_turned)[k]
                if number is not None:
                    bad[k] += 1
                    self.refuses(BadLine(number), function, **given)
                    continue
                fine[k] += 1
                behind = {**(there or {}), **{item: state for item, _, state in rows}}
                if k == 0:
                    self.same(lock_changed(one, text), tuple(sorted([own for own in behind.items() if own[1] is not None])))
                else:
                    turned = [self.plain_line(line, None) for line in lock_turned(text).split("\n") if line]
                    self.same(turned, [(item, far, near) for item, near, far in rows])
        self.assertGreater(min(fine + bad), 100, (fine, bad))

    def test_they_say(self):
        text = "~ json 1.0.0 2.0.0\n+ json/fast 2.0.0\n~ web 1.0.0 2.0.0"
        self.says(text, lock_changes, one=STALE, other=FULL)
        self.says(FULL, lock_changed, lock=STALE, text=text)
        self.says("", lock_changes, one=FULL, other=FULL)
        self.says(FULL, lock_changed, lock=FULL, text="")
        self.says("", lock_turned, text="")
        self.says("- json/fast 2.0.0", lock_turned, text="+ json/fast 2.0.0")
        self.says("~ json 2.0.0 1.0.0\n- json/fast 2.0.0\n~ web 2.0.0 1.0.0", lock_turned, text=text)
        for number, own in ((1, "- json 2.0.0"), (1, "+ json 1.0.0"), (1, "+ json 2.0.0"), (1, "~ json 2.0.0 1.0.0"), (1, "~ json 1.0.0 1.0.0"),
                            (1, "- zoo 1.0.0"), (1, " + zoo 1.0.0"), (1, "+ zoo"), (1, "+ zoo 1.0.0 2.0.0"), (1, "~ web 1.0.0"), (1, "\n"),
                            (2, "+ zoo 1.0.0\n"), (2, "+ zoo 1.0.0\n+ zoo 1.0.0"), (2, "+ zoo 1.0.0\n- web 1.0.0"), (1, "* web 1.0.0"),
                            (2, "- web 1.0.0\n+ web 2.0.0"), (2, "- json 1.0.0\n- web 2.0.0")):
            self.refuses(BadLine(number), lock_changed, lock=STALE, text=own)
        for number, own in ((1, "~ json 1.0.0 1.0.0"), (1, "json 1.0.0"), (2, "+ b 1.0.0\n+ a 1.0.0"), (2, "+ b 1.0.0\n- b 1.0.0"), (1, " ")):
            self.refuses(BadLine(number), lock_turned, text=own)


if __name__ == "__main__":
    unittest.main()
