"""[7]: MARKS, beside their truth on all WORDS."""

import itertools
import random
import unittest

from newestfit.errors import BadText
from newestfit.marks import follows, hangs_on, holds, holds_always, holds_never, is_mark, is_mark_text, is_reason
from newestfit.marks import is_words, mark_text, marks_alike, names_of, parting_words, plain_mark, read_mark, reason
from newestfit.marks import with_word, words_for
from support import Case, NO, ODD_THINGS, YES, as_lists, half_lists, made_mark, mark_holds, nested, subsets

NAMES = ("ape", "bee", "cat", "dog")
A, B, C = ("on", "a"), ("on", "b"), ("on", "c")
SIGNS = "a!()[]&|"


def plain_names(mark):
    word, inner = mark
    if word == "on":
        return {inner}
    return plain_names(inner) if word == "not" else set().union(*[plain_names(own) for own in inner])


def table_of(truth, names):
    """The plain form by its sentences, truth a function of WORDS of these names."""
    row = [truth(words) for words in subsets(names)]
    if all(row) or not any(row):
        return YES if all(row) else NO
    for name in sorted(names):
        rest = [own for own in names if own != name]
        yes, no = (lambda words: truth((*words, name))), (lambda words: truth(words))
        if any(yes(words) != no(words) for words in subsets(rest)):
            break
    sides = []
    for word, side in ((("on", name), table_of(yes, rest)), (("not", ("on", name)), table_of(no, rest))):
        if side != NO:
            sides.append(word if side == YES else ("all", (word, side)))
    return sides[0] if len(sides) == 1 else ("any", tuple(sides))


def all_mark_texts(most):
    """All MARK TEXTS of the one NAME "a", of at most so many signs, by their lengths."""
    texts = {1: {"a"}}
    for length in range(2, most + 1):
        found = {"!" + own for own in texts[length - 1]}
        for opening, joiner, closing in ("(&)", "[|]"):
            inner = rows_of_texts(texts, length - 2, joiner)
            found.update([opening + own + closing for own in inner])
        texts[length] = found
    return set().union(*texts.values())


def rows_of_texts(texts, length, joiner):
    """All rows of so many signs of texts with the joiner between."""
    if length == 0:
        return [""]
    found = list(texts.get(length, ()))
    for first in range(1, length - 1):
        rest = rows_of_texts(texts, length - first - 1, joiner) if length - first - 1 > 0 else []
        found.extend([own + joiner + more for own in texts.get(first, ()) for more in rest])
    return found


def plain_mark_text(mark):
    word, inner = mark
    if word == "on":
        return inner
    if word == "not":
        return f"!{plain_mark_text(inner)}"
    texts = [plain_mark_text(own) for own in inner]
    return f"({'&'.join(texts)})" if word == "all" else f"[{'|'.join(texts)}]"


class Kinds(Case):
    def test_is_words(self):
        self.knows(is_words, ((), ("a",), ("a", "b"), ("a", "b", "c"), ("all",)))
        self.bars(is_words, (("b", "a"), ("a", "a"), ("a", "B"), ("", "a"), ("a", 1), ("a", None), "a", ["a", "b"]))
        self.assertIs(is_words(tuple([one + other for one in "abcdefgh" for other in "abcdefgh"])), True)

    def test_is_mark(self):
        self.knows(is_mark, (YES, NO, A, ("not", A), ("all", (A, ("any", (B, C)))), ("not", ("not", YES)),
                             ("any", (A, A)), ("all", (("all", ()),))))
        self.bars(is_mark, (("on", "a", "b"), ("on",), (A,), (), "on", ("not", (A,)), ("all", A), ("all", (A, ())),
                            ("any", [A]), ("any", (A, ["on", "a"])), ("on", "toolongforaname"), ("or", (A,)), (1, A),
                            (("on", "a"), ()), ("all", None), ("all", "on"), ("not", None), ("on", None), (True, (A,))))
        deep = A
        for _ in range(198):
            deep = ("not", deep)
        wide = ("any", tuple([("on", one + other) for one in "abcdefghijklm" for other in "abcdefghijklm"]))
        self.assertIs(is_mark(deep), True)
        self.assertIs(is_mark(wide), True)
        stack = YES
        for _ in range(99):
            stack = ("all", (NO, stack))
        self.assertIs(is_mark(stack), True)
        self.assertIs(is_mark(("all", nested(190))), False)

    def test_is_mark_text(self):
        for thing in ODD_THINGS:
            self.assertIs(is_mark_text(thing=thing), thing in ("a", "core", "none") and isinstance(thing, str), thing)
        for thing in ("!" * 50000 + "a", "(" * 50000 + ")" * 50000, "[" + "|".join(["x"] * 50000) + "]"):
            self.assertIs(is_mark_text(thing), True)
            self.assertIs(is_mark_text(thing + "!"), False)


class Truth(Case):
    def marks(self, times=250, names=NAMES):
        rng = random.Random(21)
        for _ in range(times):
            yield made_mark(rng, rng.sample(names, rng.randint(1, len(names))), 4)

    def test_holds_and_names(self):
        for mark in self.marks():
            self.same(names_of(mark), tuple(sorted(plain_names(mark))))
            for words in subsets(NAMES):
                self.same(holds(mark, words), mark_holds(mark, words))
                self.same(holds(as_lists(mark), list(words)), mark_holds(mark, words))

    def test_plain_form_and_what_hangs(self):
        for mark in self.marks():
            truth = lambda words: mark_holds(mark, words)
            plain = table_of(truth, NAMES)
            self.same(plain_mark(mark), plain)
            self.same(plain_mark(half_lists(mark)), plain)
            hanging = [name for name in NAMES
                       if any(truth(words) != truth((*words, name)) for words in subsets(NAMES) if name not in words)]
            self.same(hangs_on(mark), tuple(hanging))
            self.same(holds_always(mark), plain == YES)
            self.same(holds_never(mark), plain == NO)
            self.same(words_for(mark), sorted([words for words in subsets(hanging) if truth(words)]))
            self.assertIs(is_mark(plain), True)

    def test_with_word(self):
        for mark in self.marks(120):
            for name, there in itertools.product(NAMES + ("elk",), (True, False)):
                told = with_word(mark, name, there)
                set_so = lambda words: [own for own in words if own != name] + [name] * there
                self.same(told, table_of(lambda words: mark_holds(mark, set_so(words)), NAMES))
                for words in subsets(NAMES):
                    if (name in words) == there:
                        self.same(holds(told, words), holds(mark, words))

    def test_two_marks(self):
        rng = random.Random(22)
        for one in self.marks(150, NAMES[:3]):
            other = made_mark(rng, NAMES[1:], 3) if rng.random() < 0.7 else ("not", ("not", plain_mark(one)))
            unlike = [words for words in subsets(NAMES) if mark_holds(one, words) != mark_holds(other, words)]
            self.same(parting_words(one, other), unlike[0] if unlike else None)
            self.same(marks_alike(one, other), not unlike)
            self.assertEqual(plain_mark(one) == plain_mark(other), not unlike)
            self.same(follows(one, other), all(mark_holds(other, own) for own in subsets(NAMES) if mark_holds(one,
                                                                                                              own)))

    def test_reasons(self):
        for mark in self.marks(60):
            for words in subsets(NAMES):
                settled = []
                for names in subsets(NAMES + ("elk",)):
                    agreeing = [own for own in subsets(NAMES)
                                if all((name in own) == (name in words) for name in names if name in NAMES)]
                    if all(mark_holds(mark, own) == mark_holds(mark, words) for own in agreeing):
                        settled.append(names)
                self.same(reason(mark, words), settled[0])
                for names in subsets(NAMES + ("elk",)):
                    self.assertIs(is_reason(mark, words, names), names in settled, (mark, words, names))

    def test_eight_names_and_some_more(self):
        names = tuple("abcdefghij")
        odd = ("on", "a")
        for name in names[1:8]:
            odd = ("any", (("all", (odd, ("not", ("on", name)))), ("all", (("not", odd), ("on", name)))))
        self.same(hangs_on(odd), names[:8])
        self.assertEqual(len(words_for(odd)), 128)
        self.same(reason(odd, ()), names[:8])
        self.same(parting_words(odd, ("any", tuple([("on", name) for name in names[:8]]))), ("a", "b"))
        self.same(read_mark(mark_text(plain_mark(odd))), plain_mark(odd))
        pairs = ("any", tuple([("all", (("on", names[k]), ("on", names[k + 1]))) for k in range(0, 10, 2)]))
        self.same(reason(pairs, names), ("a", "b"))
        self.same(reason(pairs, ("a", "c", "e")), ("b", "d", "f", "g", "i"))
        self.same(parting_words(pairs, NO), ("a", "b"))


class Told(Case):
    def test_functions_say(self):
        desk = ("all", (A, ("any", (B, C))))
        self.says(True, holds, mark=desk, words=("a", "c", "z"))
        self.says(False, holds, mark=desk, words=("b", "c"))
        self.says(True, holds, mark=YES, words=())
        self.says(False, holds, mark=NO, words=("a",))
        self.says(True, holds, mark=("not", NO), words=())
        self.says(("a", "b", "c"), names_of, mark=("any", (C, desk, ("not", YES))))
        self.says((), names_of, mark=("not", YES))
        self.says(("a",), hangs_on, mark=("any", (desk, A)))
        self.says((), hangs_on, mark=("any", (A, ("not", A))))
        self.says(("all", (A, ("any", (B, ("all", (("not", B), C)))))), plain_mark, mark=desk)
        self.says(YES, plain_mark, mark=("any", (A, ("not", A))))
        self.says(NO, plain_mark, mark=("all", (A, ("not", A))))
        self.says(A, plain_mark, mark=("not", ("not", A)))
        self.says(("not", A), plain_mark, mark=("all", (("not", A),)))
        self.says(("any", (("all", (A, B)), ("all", (("not", A), ("not", B))))), plain_mark,
                  mark=("any", (("all", (A, B)), ("not", ("any", (A, B))))))
        self.says(("any", (A, ("all", (("not", A), B)))), plain_mark, mark=("any", (B, A)))
        self.says(("any", (("all", (A, B)), ("not", A))), plain_mark, mark=("any", (B, ("not", A))))
        self.says(("all", (A, C)), with_word, mark=desk, name="b", there=False)
        self.says(A, with_word, mark=desk, name="b", there=True)
        self.says(NO, with_word, mark=desk, name="a", there=False)
        self.says(plain_mark(desk), with_word, mark=desk, name="zoo", there=True)
        self.says(True, holds_always, mark=("not", ("all", (A, ("not", A)))))
        self.says(False, holds_always, mark=A)
        self.says(True, holds_never, mark=("any", (NO, ("not", YES))))
        self.says(False, holds_never, mark=("not", A))

    def test_functions_of_two_say(self):
        either, odd = ("any", (A, B)), ("any", (("all", (A, ("not", B))), ("all", (("not", A), B))))
        for one, other, words in ((either, odd, ("a", "b")), (A, A, None), (YES, NO, ()), (A, B, ("a",)),
                                  (NO, C, ("c",)),
                                  (("all", (A, B)), ("all", (A, C)), ("a", "b")), (either, ("not", either), ())):
            self.says(words, parting_words, one=one, other=other)
            self.says(words is None, marks_alike, one=one, other=other)
        for one, other, told in ((odd, either, True), (either, odd, False), (NO, A, True), (A, YES, True),
                                 (YES, A, False)):
            self.says(told, follows, one=one, other=other)

    def test_words_and_reasons_say(self):
        desk = ("all", (A, ("any", (B, C))))
        self.says([("a", "b"), ("a", "b", "c"), ("a", "c")], words_for, mark=desk)
        self.says([()], words_for, mark=YES)
        self.says([], words_for, mark=NO)
        self.says([()], words_for, mark=("any", (("not", B), B)))
        self.says(("a", "b"), reason, mark=desk, words=("a", "b", "c"))
        self.says(("a",), reason, mark=desk, words=("b", "c"))
        self.says(("b", "c"), reason, mark=desk, words=("a", "z"))
        self.says((), reason, mark=YES, words=("a",))
        self.knows(lambda mark, words, thing: is_reason(mark, words, thing), (("a",), ("a", "b"), ("a", "b", "c")),
                   mark=desk, words=("b",))
        self.bars(is_reason, (("b", "a"), ["a"], ("a", "a"), ("b",), (), ("b", "c"), None, "a", ("a", 1)),
                  mark=as_lists(desk), words=["b", "c"])
        self.assertIs(is_reason(desk, ("b",), ("a", "zoo")), True)
        self.assertIs(is_reason(YES, (), ()), True)


class Texts(Case):
    def test_each_short_text_and_its_place(self):
        texts = all_mark_texts(9)
        beginnings = {own[:many] for own in texts for many in range(len(own) + 1)}
        # What begins a text with at most four signs is closed within nine.
        for length in range(5):
            for signs in itertools.product(SIGNS, repeat=length):
                text = "".join(signs)
                if "aa" in text:
                    continue
                self.assertIs(is_mark_text(text), text in texts, text)
                if text in texts:
                    self.same(mark_text(read_mark(text)), text)
                    self.same(plain_mark_text(read_mark(text)), text)
                    continue
                with self.assertRaises(BadText) as caught:
                    read_mark(text)
                places = [many for many in range(len(text) + 1) if text[:many] in beginnings]
                self.same(caught.exception.place, places[-1], text)

    def test_there_and_back(self):
        rng = random.Random(23)
        for _ in range(400):
            mark = made_mark(rng, NAMES, 6)
            self.same(mark_text(mark), plain_mark_text(mark))
            self.same(read_mark(mark_text(mark)), mark)

    def test_texts_say(self):
        for mark, text in ((A, "a"), (("not", A), "!a"), (YES, "()"), (NO, "[]"), (("not", YES), "!()"),
                           (("all", (A,)), "(a)"),
                           (("any", (A, ("all", (B, C)), YES)), "[a|(b&c)|()]"),
                           (("on", "abcdefghijkl"), "abcdefghijkl"),
                           (("not", ("not", ("any", (("not", NO),)))), "!![![]]"), (("all", (YES, NO)), "(()&[])")):
            self.says(text, mark_text, mark=mark)
            self.says(mark, read_mark, text=text)

    def test_refused_texts(self):
        for text, place in (("", 0), ("(a|b)", 2), ("[a&b]", 2), ("(a&)", 3), ("[a|]", 3), ("(&a)", 1), ("a b", 1),
                            ("aB", 1),
                            ("abcdefghijklm", 12), ("(abcdefghijklm)", 13), ("!", 1), ("!)", 1), ("(!)", 2), ("(a", 2),
                            ("(a]", 2), ("[(])", 2), (")", 0), ("a!", 1), ("(a)(b)", 3), ("()()", 2), ("(a&&b)", 3),
                            ("a&b", 1),
                            ("[!a|(b)|[]", 10), ("[!a|(b)|[]]]", 11), ("A", 0), (" a", 0), ("\u00e9", 0), ("a\n", 1)):
            self.refuses(BadText(place), read_mark, text=text)
        deep = "!" * 199 + "a"
        self.same(mark_text(read_mark(deep)), deep)
        self.assertIs(holds(read_mark(deep), ("a",)), False)


if __name__ == "__main__":
    unittest.main()
