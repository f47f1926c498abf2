"""[4]: VERSIONS, beside plain computations."""

import itertools
import random
import re
import unittest

from newestfit.errors import BadText
from newestfit.versions import compared, first_unlike, from_best, is_early, is_name, is_version, newest_of
from newestfit.versions import next_release, next_version, read_version, released, steps_between, steps_on
from newestfit.versions import version_ahead, version_text
from support import Case, FIRST, plain_text

# In order; between two neighbours with two like first numbers there may be others, never below the first.
BOX = list(itertools.product(range(3), range(3), range(3), range(-9, 1)))
TEXT = re.compile("(0|[1-9][0-9]*)[.](0|[1-9][0-9]*)[.](0|[1-9][0-9]*)(-[1-9])?")
TAILS = ("", "1", "0", ".0", ".0.0", "0.0", "0.0.0")
HUGE = 10 ** 30


def begins_one(text):
    """Whether some VERSION's text begins so: one of these ends must do."""
    return any(TEXT.fullmatch(text + tail) for tail in TAILS)


def plain_place(text):
    return max(many for many in range(len(text) + 1) if begins_one(text[:many]))


class Kinds(Case):
    def test_is_name(self):
        self.knows(is_name, ("a", "core", "z", "abcdefghijkl", "none"))
        self.bars(is_name, ("abcdefghijklm", "a" * 1000, "core2", "a_b", "a-b", "a.b", "Z", "aB", " a", "a ", "\u00df",
                            "\u00aa", "`", "{"))

    def test_is_version(self):
        self.knows(is_version, ((1, 2, 3, 0), (0, 0, 0, 0), FIRST, (0, 0, 0, -1), (HUGE, HUGE, HUGE, -9)))
        self.bars(is_version, ((-1, 0, 0, 0), (0, -1, 0, 0), (0, 0, -1, 0), (0, 0, 0, 1), (0, 0, 0, -10),
                               (True, 0, 0, 0), (0, True, 0, 0), (0, 0, True, 0), (0, 0, 0, False), (0, 0, 0),
                               (0, 0, 0, 0, 0), [0, 0, 0, 0], ((0, 0, 0, 0),), (0, 0, 0, None), ("0", 0, 0, 0),
                               ((), 0, 0, 0), (0, 0, 0, ()), (0, 0, [], 0), "0.0.0"))


class Texts(Case):
    def test_texts_of_a_box_are_read_back_and_are_all_unlike(self):
        texts = {}
        for version in BOX:
            self.assertEqual(version_text(version), plain_text(version))
            self.assertEqual(read_version(plain_text(version)), version)
            texts[plain_text(version)] = True
        self.assertEqual(len(texts), len(BOX))

    def test_text_says(self):
        for version, text in (((1, 2, 3, 0), "1.2.3"), (FIRST, "0.0.0-9"), ((10, 0, 99, -1), "10.0.99-1"),
                              ((HUGE, 7, HUGE, -5), f"{HUGE}.7.{HUGE}-5")):
            self.says(text, version_text, version=version)
            self.says(version, read_version, text=text)

    def test_each_short_text_and_each_beginning(self):
        for length in range(7):
            for signs in itertools.product("012.-", repeat=length):
                self.look_at("".join(signs))

    def test_longer_texts_with_a_sign_left_out_bent_or_added(self):
        for text in ("1.2.3", "10.20.30-4", "0.0.0-9", "99.0.10"):
            for at in range(len(text) + 1):
                self.look_at(text[:at])
                for sign in "059.-x *\n\u0663":
                    self.look_at(text[:at] + sign + text[at:])
                    self.look_at(text[:at] + sign + text[at + 1:])

    def look_at(self, text):
        if TEXT.fullmatch(text):
            self.same(version_text(read_version(text)), text)
            return
        with self.assertRaises(BadText) as caught:
            read_version(text)
        self.same(caught.exception.place, plain_place(text), text)

    def test_refused_texts(self):
        for text, place in (("", 0), ("1.2", 3), ("1.2.", 4), ("01.2.3", 1), ("1.2.3-", 6), ("1.2.3-0", 6),
                            ("1.2.3-10", 7), ("1.2.3.4", 5), ("-1.2.3", 0), (" 1.2.3", 0), ("1.2.3 ", 5), ("1..3", 2),
                            ("1.2.3--1", 6), ("\u0661.2.3", 0), ("1.2.3\n", 5), ("9" * 150, 150)):
            self.refuses(BadText(place), read_version, text=text)


class Order(Case):
    def test_compared_and_first_unlike(self):
        rng = random.Random(1)
        for _ in range(400):
            one, other = rng.choice(BOX), rng.choice(BOX)
            at = [BOX.index(one), BOX.index(other)]
            self.same(compared(one, other), (at[0] > at[1]) - (at[0] < at[1]))
            unlike = [place for place in range(4) if one[place] != other[place]]
            self.same(first_unlike(one, other), unlike[0] if unlike else None)
        for one, other, sign, place in (((1, 2, 3, 0), (1, 2, 4, -2), -1, 2), (FIRST, FIRST, 0, None),
                                        ((1, 0, 0, -9), (0, HUGE, HUGE, 0), 1, 0), ((1, 2, 3, -1), (1, 2, 3, 0), -1, 3),
                                        ((1, 3, 0, 0), (1, 2, 9, 0), 1, 1)):
            self.says(sign, compared, one=one, other=other)
            self.says(place, first_unlike, one=one, other=other)

    def test_of_any_versions_some_one_is_the_least(self):
        rng = random.Random(4)
        for _ in range(100):
            versions = [rng.choice(BOX) for _ in range(rng.randint(1, 12))]
            least = from_best(tuple(versions))[-1]
            self.assertIn(least, versions)
            self.assertTrue(all(compared(least, own) <= 0 for own in versions))

    def test_early_and_released(self):
        for version in BOX:
            self.same(is_early(version), version[3] != 0)
            self.same(released(version), version[:3] + (0,))
        self.says(True, is_early, version=(0, 0, 0, -1))
        self.says(False, is_early, version=(HUGE, 0, 0, 0))
        self.says((1, 2, HUGE, 0), released, version=(1, 2, HUGE, -9))

    def test_newest_and_from_best(self):
        rng = random.Random(2)
        for _ in range(200):
            versions = tuple([rng.choice(BOX) for _ in range(rng.randint(0, 6))])
            out = [own for own in versions if own[3] == 0]
            self.same(newest_of(versions, True), sorted(versions)[-1] if versions else None)
            self.same(newest_of(versions, False), sorted(out)[-1] if out else None)
            best = from_best(versions)
            self.assertEqual(sorted(best), sorted(set(versions)))
            self.assertTrue(all(best[k] > best[k + 1] for k in range(len(best) - 1)))
        old, new = (1, 0, 0, 0), (1, 0, 1, -3)
        self.says(new, newest_of, versions=(old, new, old), early=True)
        self.says(old, newest_of, versions=(new, old, new), early=False)
        self.says(None, newest_of, versions=(new,), early=False)
        self.says(None, newest_of, versions=(), early=True)
        self.says((new, old), from_best, versions=(old, new, old, new))
        self.says((), from_best, versions=())


class Steps(Case):
    def test_next_and_ahead(self):
        for version in BOX:
            after = (*version[:3], version[3] + 1) if version[3] else (*version[:2], version[2] + 1, -9)
            self.same(next_version(version), after)
            self.same(version_ahead(after), version)
            self.assertLess(version, after)
            self.assertFalse([own for own in BOX if version < own < after])
        self.says((1, 2, 4, -9), next_version, version=(1, 2, 3, 0))
        self.says((1, 2, 3, 0), next_version, version=(1, 2, 3, -1))
        self.says((1, 2, 3, 0), version_ahead, version=(1, 2, 4, -9))
        self.says((5, HUGE - 1, HUGE, -3), version_ahead, version=(5, HUGE - 1, HUGE, -2))
        for version in (FIRST, (1, 0, 0, -9), (0, HUGE, 0, -9)):
            self.says(None, version_ahead, version=version)

    def test_steps_one_by_one(self):
        start = (3, 1, 4, -4)
        back, on = start, start
        for many in range(60):
            self.same(steps_on(start, many), on)
            self.same(steps_on(start, -many), back)
            if back is not None:
                self.same(steps_between(start, back), -many)
                back = version_ahead(back)
            self.same(steps_between(start, on), many)
            on = next_version(on)
        self.assertIsNone(back)

    def test_steps_there_and_back(self):
        rng = random.Random(3)
        for _ in range(500):
            one, other = rng.choice(BOX), rng.choice(BOX)
            many = steps_between(one, other)
            self.assertEqual(many is None, one[:2] != other[:2])
            if many is not None:
                self.same(steps_on(one, many), other)
                self.same(steps_between(other, one), -many)

    def test_steps_at_the_ends(self):
        self.says((1, 2, 0, -9), steps_on, version=(1, 2, 3, 0), many=-39)
        self.says(None, steps_on, version=(1, 2, 3, 0), many=-40)
        self.says(None, steps_on, version=(1, 2, 3, 0), many=-10 ** 6)
        self.says((1, 2, 100003, 0), steps_on, version=(1, 2, 3, 0), many=10 ** 6)
        self.says((1, 2, 3 + HUGE, 0), steps_on, version=(1, 2, 3, 0), many=10 * HUGE)
        self.says(FIRST, steps_on, version=FIRST, many=0)
        self.says(None, steps_on, version=FIRST, many=-1)
        self.says((0, 0, 1, -9), steps_on, version=FIRST, many=10)
        self.says(10 * HUGE, steps_between, one=(0, 0, 0, 0), other=(0, 0, HUGE, 0))
        self.says(None, steps_between, one=(1, 2, 3, 0), other=(1, 3, 0, 0))
        self.says(None, steps_between, one=(1, 2, 3, 0), other=(2, 2, 3, 0))
        self.says(0, steps_between, one=(1, 2, 3, -3), other=(1, 2, 3, -3))
        self.says(-9, steps_between, one=(1, 2, 3, 0), other=(1, 2, 3, -9))

    def test_next_release(self):
        for version in [own for own in BOX if max(own[:3]) < 2]:
            for place in range(3):
                greater = [own for own in BOX if own[3] == 0 and own[:place] == version[:place]
                           and own[place] > version[place]]
                self.same(next_release(version, place), min(greater))
        for place, expected in enumerate(((2, 0, 0, 0), (1, 3, 0, 0), (1, 2, HUGE + 1, 0))):
            self.says(expected, next_release, version=(1, 2, HUGE, -2), place=place)


if __name__ == "__main__":
    unittest.main()
