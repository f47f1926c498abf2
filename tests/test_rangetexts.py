"""[6]: texts of RANGES, beside a plain reading of BOUNDS."""

import itertools
import random
import re
import unittest

from newestfit.errors import BadText, Unfit
from newestfit.ranges import both_of, either_of, is_range
from newestfit.rangetexts import bound_range, bounds_for, bounds_in, fewest_rows, idle_rows, is_bound, is_range_text
from newestfit.rangetexts import parted_at, range_text, read_range, rewritten, row_range, rows_holding, tell_alike
from newestfit.versions import version_ahead
from support import Case, EVERY, FIRST, ODD_THINGS, around, made_range, made_version, plain_text, plainly_holds
from support import subsets

NUMBER = "(?:0|[1-9][0-9]*)"
VERSION = rf"{NUMBER}\.{NUMBER}\.{NUMBER}(?:-[1-9])?"
BOUND = rf"(?:none|\*|[=<>^~]{VERSION}|[<>]={VERSION}|{VERSION}\.\.{VERSION}|{NUMBER}\.\*|{NUMBER}\.{NUMBER}\.\*)"
ONE_BOUND = re.compile(BOUND)
ONE_TEXT = re.compile(rf"{BOUND}(?:[,|]{BOUND})*")
# What begins a BOUND is made whole by the end of one of these.
ENDS = sorted({word[at:] for word in ("none", "*", "=0.0.0", "0.0.0..0.0.0", "0.0.0-1..0.0.0-1")
               for at in range(len(word) + 1)})
GOOD_TEXTS = ("none", "*", "=1.2.3", "<0.0.0-9", "<=1.20.3", ">10.0.1", ">=1.2.3-4", "1.2.3..2.0.0", "1.0.0-1..0.9.0-2",
              "7.*", "0.*", "0.12.*", "^0.0.1", "~1.2.3-9", ">=1.2.0,<2.0.0", "none|*", "1.*,2.*|none,*|=1.0.0")
HUGE = 10 ** 30


def begins_one(text, whole):
    return any(whole.fullmatch(text + end) for end in ENDS)


def plain_place(text, whole):
    return max(many for many in range(len(text) + 1) if begins_one(text[:many], whole))


def plain_version(text):
    numbers, _, fourth = text.partition("-")
    return (*[int(number) for number in numbers.split(".")], -int(fourth or 0))


def bound_holds(bound, version):
    """Whether the VERSIONS that bound holds, as the table tells them, are with version."""
    if bound in ("none", "*"):
        return bound == "*"
    if bound.endswith("*"):
        ahead = tuple([int(number) for number in bound.split(".")[:-1]])
        return version[:len(ahead)] == ahead
    if ".." in bound:
        low, _, high = bound.partition("..")
        return plain_version(low) <= version < plain_version(high)
    sign = bound.rstrip("0123456789.-")
    own = plain_version(bound[len(sign):])
    fixed = {"~": 2, "^": 1 if own[0] else 2 if own[1] else 3}.get(sign, 0)
    return {"=": version == own, "<": version < own, "<=": version <= own, ">": version > own}.get(
        sign, version >= own and version[:fixed] == own[:fixed])


def row_holds(row, version):
    return all(bound_holds(bound, version) for bound in row)


def text_holds(text, version):
    return any(row_holds(row.split(","), version) for row in text.split("|"))


def made_bound(rng):
    one, other = plain_text(made_version(rng)), plain_text(made_version(rng))
    return rng.choice(("none", "*", "*", f"={one}", f"<{one}", f"<={one}", f">{one}", f">={one}", f"{one}..{other}",
                       f"{rng.randint(0, 2)}.*", f"{rng.randint(0, 2)}.{rng.randint(0, 2)}.*", f"^{one}", f"~{one}"))


def made_text(rng, rows=4, bounds=2):
    return "|".join([",".join([made_bound(rng) for _ in range(rng.randint(1, bounds))])
                     for _ in range(rng.randint(1, rows))])


def all_bounds(versions):
    """All BOUNDS with these VERSIONS and their first numbers."""
    texts = [plain_text(own) for own in versions]
    found = {"none", "*"}
    found.update([f"{own[0]}.*" for own in versions] + [f"{own[0]}.{own[1]}.*" for own in versions])
    found.update([sign + text for sign in ("=", "<", "<=", ">", ">=", "^", "~") for text in texts])
    found.update([f"{one}..{other}" for one in texts for other in texts])
    return found


class Kinds(Case):
    def test_which_things_are_texts(self):
        for function, whole in ((is_bound, ONE_BOUND), (is_range_text, ONE_TEXT)):
            for thing in ODD_THINGS + GOOD_TEXTS + ([GOOD_TEXTS[0]], GOOD_TEXTS):
                expected = isinstance(thing, str) and whole.fullmatch(thing) is not None
                self.assertIs(function(thing=thing), expected, thing)
        nines = "9" * 6000
        for text in (f"={nines}.0.{nines}", f"{nines}.*", f"0.{nines}.*", f"0.0.0..0.0.{nines}-9"):
            self.assertIs(is_bound(text), True)
            self.assertIs(is_range_text(text + "," + text), True)
            self.assertIs(is_bound("0" + text + "0"), False)
        self.assertIs(is_range_text("|".join(["none"] * 5000)), True)
        self.bars(is_bound, ("none,none", "*|*", "", "1.2.3", "<=01.0.0", "= 1.0.0", "==1.0.0", "1.2.3.*", "*.*"))
        self.bars(is_range_text, ("", ",", "*|", "|*", "*,,*", "* | *", "1.2.3", "NONE", "=1.2.3\n"))

    def look_at(self, text):
        for function, whole, kind in ((bound_range, ONE_BOUND, is_bound), (read_range, ONE_TEXT, is_range_text)):
            good = whole.fullmatch(text) is not None
            self.assertIs(kind(text), good, text)
            if good:
                self.assertTrue(is_range(function(text)))
                continue
            with self.assertRaises(BadText) as caught:
                function(text)
            self.same(caught.exception.place, plain_place(text, whole), text)

    def test_all_short_texts(self):
        for length in range(4):
            for signs in itertools.product("no*=<>^~01.-,|", repeat=length):
                self.look_at("".join(signs))

    def test_texts_bent_at_each_sign(self):
        for text in GOOD_TEXTS:
            for at in range(len(text) + 1):
                self.look_at(text[:at])
                for sign in "ne*=<^0.-,| 5\u0663":
                    self.look_at(text[:at] + sign + text[at:])
                    self.look_at(text[:at] + sign + text[at + 1:])
                self.look_at(text[:at] + text[at + 1:])

    def test_refused_parameter_by_parameter(self):
        for function in (tell_alike, parted_at):
            self.refuses(BadText(3), function, one="1.2", other="")
            self.refuses(BadText(5), function, one="*", other="*,non")
            self.refuses(BadText(0), function, one="", other="1.2")
        for function in (bounds_in, read_range, rewritten, idle_rows, fewest_rows):
            self.refuses(BadText(7), function, text="^1.2.3| =2.0.0")
            self.refuses(BadText(5), function, text="1.2.3")
            self.refuses(BadText(0), function, text="")
        self.refuses(BadText(2), rows_holding, text="*|", version=FIRST)
        self.refuses(BadText(6), bound_range, bound="=1.0.0,=2.0.0")
        self.refuses(BadText(2), bound_range, bound="no ")
        self.refuses(BadText(4), row_range, row=("*", "none", "1.2.x", ""))
        self.refuses(BadText(1), row_range, row=("none", "*,*"))
        self.refuses(BadText(0), row_range, row=("", "1.2.3"))


class Reading(Case):
    def test_each_kind_of_bound(self):
        rng = random.Random(11)
        for _ in range(60):
            versions = [made_version(rng) for _ in range(2)]
            universe = around([((own, None),) for own in versions], [FIRST, (0, 0, 1, 0), (1, 0, 0, -9), (2, 1, 0, -9)])
            for bound in all_bounds(versions):
                span = bound_range(bound)
                self.assertTrue(is_range(span))
                for version in universe:
                    self.assertEqual(plainly_holds(span, version), bound_holds(bound, version), (bound, version))

    def test_bounds_say(self):
        one, two = (1, 2, 3, 0), (2, 0, 0, -9)
        for bound, span in (("none", ()), ("*", EVERY), ("=1.2.3", ((one, (1, 2, 4, -9)),)),
                            ("<1.2.3", ((FIRST, one),)),
                            ("<=1.2.3", ((FIRST, (1, 2, 4, -9)),)), (">1.2.3", (((1, 2, 4, -9), None),)),
                            (">=1.2.3", ((one, None),)), ("1.2.3..2.0.0-9", ((one, two),)), ("2.0.0..1.2.3", ()),
                            ("1.2.3..1.2.3", ()), ("1.*", (((1, 0, 0, -9), two),)), ("0.*", ((FIRST, (1, 0, 0, -9)),)),
                            ("1.2.*", (((1, 2, 0, -9), (1, 3, 0, -9)),)), ("^1.2.3", ((one, two),)),
                            ("~1.2.3", ((one, (1, 3, 0, -9)),)), ("<0.0.0-9", ()), (">=0.0.0-9", EVERY),
                            (">0.0.0-9", (((0, 0, 0, -8), None),)), ("<=0.0.0-9", ((FIRST, (0, 0, 0, -8)),)),
                            ("=1.2.3-1", (((1, 2, 3, -1), one),)), (">1.2.3-1", ((one, None),)),
                            ("^0.2.3-4", (((0, 2, 3, -4), (0, 3, 0, -9)),)),
                            ("^0.0.0", (((0, 0, 0, 0), (0, 0, 1, -9)),)),
                            (f"={HUGE}.0.0", (((HUGE, 0, 0, 0), (HUGE, 0, 1, -9)),)),
                            (f"{HUGE}.{HUGE}.*", (((HUGE, HUGE, 0, -9), (HUGE, HUGE + 1, 0, -9)),))):
            self.says(span, bound_range, bound=bound)
            self.says(span, read_range, text=bound)
            self.says(((bound,),), bounds_in, text=bound)

    def test_rows_and_texts(self):
        rng = random.Random(12)
        for _ in range(150):
            text = made_text(rng)
            rows = tuple([tuple(row.split(",")) for row in text.split("|")])
            self.says(rows, bounds_in, text=text)
            span, joined = read_range(text), ()
            universe = around([span] + [bound_range(bound) for row in rows for bound in row])
            for version in universe:
                self.assertEqual(plainly_holds(span, version), text_holds(text, version), (text, version))
                held = tuple([k for k, row in enumerate(rows) if row_holds(row, version)])
                self.same(rows_holding(text, version), held)
            for row in rows:
                both = EVERY
                for bound in row:
                    both = both_of(both, bound_range(bound))
                self.same(row_range(row), both)
                joined = either_of(joined, both)
            self.same(span, joined)

    def test_rows_say(self):
        self.says((((1, 2, 0, 0), (2, 0, 0, 0)),), row_range, row=(">=1.2.0", "<2.0.0"))
        self.says((), row_range, row=("1.*", "2.*", "*"))
        self.says(EVERY, row_range, row=("*",))
        self.says((), row_range, row=("none",))
        self.says((0, 2), rows_holding, text="1.*|2.*|>=1.5.0,<3.0.0", version=(1, 5, 0, 0))
        self.says((), rows_holding, text="1.*|2.*", version=(3, 0, 0, 0))
        self.says((2,), rows_holding, text="1.*|2.*|>=1.5.0,<3.0.0", version=(3, 0, 0, -1))


class Writing(Case):
    def test_there_and_back(self):
        rng = random.Random(13)
        for _ in range(200):
            span = made_range(rng, 4, 3)
            self.same(read_range(range_text(span)), span)
            text = made_text(rng)
            self.same(rewritten(text), range_text(read_range(text)))
            self.same(read_range(rewritten(text)), read_range(text))
            self.same(rewritten(rewritten(text)), rewritten(text))

    def test_bounds_for_by_trying_all(self):
        rng = random.Random(14)
        spans = [made_range(rng, 1, 1) for _ in range(50)] + [bound_range(made_bound(rng)) for _ in range(100)]
        for span in [own for own in spans if len(own) == 1] + [EVERY]:
            ends = [end for end in span[0] if end is not None]
            ahead = [version_ahead(end) for end in ends]
            universe = around([span])
            bounds = all_bounds(ends + [own for own in ahead if own is not None] + [FIRST])
            alike = [own for own in bounds if all(bound_holds(own, at) == plainly_holds(span, at) for at in universe)]
            alike = [own for own in alike if read_range(own) == span]
            self.same(bounds_for(span), tuple(sorted(alike, key=lambda own: (len(own), own))))
            self.assertEqual(min(map(len, alike)), len(range_text(span)))

    def test_no_text_with_a_bound_for_each_pair_is_shorter(self):
        rng = random.Random(17)
        for _ in range(25):
            span = made_range(rng, 3, 1)
            if len(span) < 2:
                continue
            ends = [end for pair in span for end in pair if end is not None]
            ends.extend([own for own in map(version_ahead, ends) if own is not None])
            shortest = {}
            for bound in all_bounds(ends + [FIRST]):
                held = read_range(bound)
                shortest[held] = min(len(bound), shortest.get(held, 999))
            least = sum([shortest[(pair,)] for pair in span]) + len(span) - 1
            self.assertEqual(len(range_text(span)), least)
            self.assertEqual(len(rewritten(range_text(span))), least)

    def test_bounds_for_says(self):
        for span, bounds in ((EVERY, ("*", ">=0.0.0-9")), (((FIRST, (0, 0, 0, -8)),),
                                                           ("<0.0.0-8", "=0.0.0-9", "<=0.0.0-9",
                                                                                      "0.0.0-9..0.0.0-8")),
                             ((((1, 0, 0, 0), None),), (">=1.0.0", ">1.0.0-1")),
                             ((((1, 0, 0, -9), None),), (">=1.0.0-9",)),
                             ((((0, 0, 3, 0), (0, 0, 4, -9)),), ("=0.0.3", "^0.0.3", "0.0.3..0.0.4-9")),
                             (((FIRST, (1, 0, 0, -9)),), ("0.*", "<1.0.0-9", "0.0.0-9..1.0.0-9")),
                             (((FIRST, (0, 0, 1, -9)),), ("<=0.0.0", "<0.0.1-9", "^0.0.0-9", "0.0.0-9..0.0.1-9")),
                             (((FIRST, (0, 1, 0, -9)),), ("0.0.*", "<0.1.0-9", "~0.0.0-9", "0.0.0-9..0.1.0-9")),
                             ((((1, 2, 0, -9), (1, 3, 0, -9)),), ("1.2.*", "~1.2.0-9", "1.2.0-9..1.3.0-9")),
                             ((((2, 0, 0, -9), (3, 0, 0, -9)),), ("2.*", "^2.0.0-9", "2.0.0-9..3.0.0-9")),
                             ((((0, 2, 1, 0), (0, 3, 0, -9)),), ("^0.2.1", "~0.2.1", "0.2.1..0.3.0-9")),
                             ((((0, 1, 0, -9), (0, 2, 0, -9)),), ("0.1.*", "^0.1.0-9", "~0.1.0-9", "0.1.0-9..0.2.0-9")),
                             (((FIRST, (0, 0, 1, 0)),), ("<0.0.1", "<=0.0.1-1", "0.0.0-9..0.0.1"))):
            self.says(bounds, bounds_for, span=span)
            self.says(bounds[0], range_text, span=span)
        self.refuses(Unfit(), bounds_for, span=())
        self.refuses(Unfit(), bounds_for, span=((FIRST, (1, 0, 0, 0)), ((2, 0, 0, 0), None)))

    def test_range_text_says(self):
        self.says("none", range_text, span=())
        self.says("<1.0.0|=2.0.0|>=3.0.0", range_text,
                  span=((FIRST, (1, 0, 0, 0)), ((2, 0, 0, 0), (2, 0, 1, -9)), ((3, 0, 0, 0), None)))
        for text, told in (("<1.0.0|>=1.0.0", "*"), ("^1.2.3|2.*", "1.2.3..3.0.0-9"), ("1.*,2.*", "none"),
                           ("none", "none"),
                           ("2.*|1.*|none", "1.0.0-9..3.0.0-9"), (">0.9.0,<=1.0.0", "0.9.1-9..1.0.1-9")):
            self.says(told, rewritten, text=text)


class Alike(Case):
    def test_alike_exactly_if_not_parted(self):
        rng = random.Random(15)
        for _ in range(300):
            one, other = made_text(rng, 2), made_text(rng, 2)
            if rng.random() < 0.3:
                other = rewritten(one)
            universe = around([read_range(one), read_range(other)])
            unlike = [own for own in universe if text_holds(one, own) != text_holds(other, own)]
            self.same(parted_at(one, other), unlike[0] if unlike else None)
            self.same(tell_alike(one, other), not unlike)
            self.assertEqual(rewritten(one) == rewritten(other), not unlike)

    def test_alike_says(self):
        for one, other, place in (("^1.2.3", ">=1.2.3,<2.0.0", (2, 0, 0, -9)), ("<=1.2.3", "<1.2.4-9", None),
                                  ("1.*", "^1.0.0", (1, 0, 0, -9)), ("none", "2.0.0..1.0.0", None),
                                  ("none", "*", FIRST)):
            self.says(place, parted_at, one=one, other=other)
            self.says(place is None, tell_alike, one=one, other=other)


class Rows(Case):
    def test_by_trying_all(self):
        rng = random.Random(16)
        for _ in range(150):
            text = made_text(rng, 5)
            rows = [row.split(",") for row in text.split("|")]
            universe = around([read_range(row) for row in text.split("|")])
            held = [[k for k, row in enumerate(rows) if row_holds(row, own)] for own in universe]
            held = [own for own in held if own]
            enough = lambda chosen: all(any(k in chosen for k in own) for own in held)
            everyone = range(len(rows))
            idle = [k for k in everyone if enough([other for other in everyone if other != k])]
            self.same(idle_rows(text), tuple(idle) if len(rows) > 1 else ())
            self.same(fewest_rows(text), [own for own in subsets(everyone) if own and enough(own)][0])

    def test_rows_say(self):
        several = "^1.2.0|=1.4.7|~2.0.0|1.5.0..2.1.0"
        for text, idle, fewest in ((several, (1, 2), (0, 3)), ("*", (), (0,)), ("none", (), (0,)),
                                   ("none|none", (0, 1), (0,)), ("none|1.*|none", (0, 2), (1,)),
                                   ("1.*|1.*", (0, 1), (0,)), ("1.*|2.*|3.*", (), (0, 1, 2)),
                                   ("<2.0.0|>=1.0.0|*", (0, 1, 2), (2,)), ("1.*,2.*|3.*,4.*", (0, 1), (0,)),
                                   ("|".join([f"{k}.*" for k in range(9)] + ["*"]), tuple(range(9)), (9,))):
            self.says(idle, idle_rows, text=text)
            self.says(fewest, fewest_rows, text=text)


if __name__ == "__main__":
    unittest.main()
