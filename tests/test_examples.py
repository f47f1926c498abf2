"""Every example of points [4] to [9] of the document, word for word, names carried on from one to the next."""

import importlib
import unittest

FILES = ("errors", "versions", "ranges", "rangetexts", "marks", "registry", "items")

# (point, its examples): a line that tells nothing sets names.
EXAMPLES = (
    (4, """
>>> v, w = (1, 2, 3, 0), (1, 2, 4, -2)
>>> is_name("core"), is_name("Core"), is_name(""), is_version(v), is_version((1, 2, 3, 1)), is_version((1, 2, True, 0))
(True, False, False, True, False, False)
>>> version_text(v), version_text(w), read_version("1.2.4-2"), read_version("0.10.0")
('1.2.3', '1.2.4-2', (1, 2, 4, -2), (0, 10, 0, 0))
>>> is_early(w), released(w), compared(v, w), compared(w, w), first_unlike(v, w), first_unlike(v, v)
(True, (1, 2, 4, 0), -1, 0, 2, None)
>>> next_version(v), next_version(w), version_ahead((1, 2, 4, -9)), version_ahead((1, 2, 0, -9))
((1, 2, 4, -9), (1, 2, 4, -1), (1, 2, 3, 0), None)
>>> steps_on(v, 10), steps_on(v, -40), steps_on(w, 0), steps_between(v, w), steps_between(w, v), steps_between(v, (1, 3, 0, 0))
((1, 2, 4, 0), None, (1, 2, 4, -2), 8, -8, None)
>>> [next_release(w, place) for place in (0, 1, 2)], newest_of((v, w), False), newest_of((v, w), True), newest_of((w,), False), from_best((v, w, v))
([(2, 0, 0, 0), (1, 3, 0, 0), (1, 2, 5, 0)], (1, 2, 3, 0), (1, 2, 4, -2), None, ((1, 2, 4, -2), (1, 2, 3, 0)))
>>> read_version("1.2")
raises BadText(place=3)
>>> read_version("1.02.3")
raises BadText(place=3)
>>> read_version("1.2.3-12")
raises BadText(place=7)
"""),
    (5, """
>>> a, b = (((1, 0, 0, 0), (2, 0, 0, -9)),), (((0, 3, 0, 0), (1, 4, 0, -9)), ((3, 0, 0, 0), None))
>>> range_of((((2, 0, 0, 0), None), ((1, 2, 0, 0), (2, 0, 0, 0))))
(((1, 2, 0, 0), None),)
>>> in_range(a, (2, 0, 0, -1)), just(v), compatible((0, 2, 5, 0)) == close_to((0, 2, 5, 0)), below((0, 0, 0, -9))
(False, (((1, 2, 3, 0), (1, 2, 4, -9)),), True, ())
>>> both_of(a, b), all_but(a), taken_out(a, b)
((((1, 0, 0, 0), (1, 4, 0, -9)),), (((0, 0, 0, -9), (1, 0, 0, 0)), ((2, 0, 0, -9), None)), (((1, 4, 0, -9), (2, 0, 0, -9)),))
>>> is_inside(just((1, 1, 0, 0)), a), are_apart(a, from_on((2, 0, 0, -9))), parting_version(a, b), range_grains((a, b))[2]
(True, True, (0, 3, 0, 0), ((1, 0, 0, 0), (1, 4, 0, -9), (0, 1)))
>>> by_rows((a, b), ((0,),)) == taken_out(a, b), newest_in(a), newest_in(just(v)), next_in(b, (2, 0, 0, 0)), many_in(((v, (1, 2, 6, -4)),)), many_in(a)
(True, None, (1, 2, 3, 0), (3, 0, 0, 0), 26, None)
>>> least_release_in(((w, (1, 2, 4, 0)),)), shortened(a, ((0, 9, 0, 0), v, (1, 7, 0, 0), (3, 0, 0, 0)))
(None, (((1, 2, 3, 0), (3, 0, 0, 0)),))
>>> least_in(())
raises NoPaper()
"""),
    (6, """
>>> read_range("^1.2.3"), read_range("~0.4.0-2"), read_range(">=1.2.0,<1.4.0"), read_range("2.0.0..1.0.0")
((((1, 2, 3, 0), (2, 0, 0, -9)),), (((0, 4, 0, -2), (0, 5, 0, -9)),), (((1, 2, 0, 0), (1, 4, 0, 0)),), ())
>>> bounds_in(">=1.2.0,<2.0.0|=3.0.0-1"), row_range((">=1.2.0", "<2.0.0")), bound_range("1.4.*")
(((">=1.2.0", "<2.0.0"), ("=3.0.0-1",)), (((1, 2, 0, 0), (2, 0, 0, 0)),), (((1, 4, 0, -9), (1, 5, 0, -9)),))
>>> bounds_for(read_range("=0.0.3")), range_text(()), rewritten("<1.0.0|>=1.0.0"), rewritten("^1.2.3|2.*")
(('=0.0.3', '^0.0.3', '0.0.3..0.0.4-9'), 'none', '*', '1.2.3..3.0.0-9')
>>> parted_at("^1.2.3", ">=1.2.3,<2.0.0"), parted_at("<=1.2.3", "<1.2.4-9"), tell_alike("1.*", "^1.0.0")
((2, 0, 0, -9), None, False)
>>> several = "^1.2.0|=1.4.7|~2.0.0|1.5.0..2.1.0"
>>> rows_holding(several, (1, 5, 0, 0)), idle_rows(several), fewest_rows(several), is_range_text("1.2.3"), is_bound("<=01.0.0")
((0, 3), (1, 2), (0, 3), False, False)
>>> read_range("^1.2.3| =2.0.0")
raises BadText(place=7)
>>> read_range("1.2.3")
raises BadText(place=5)
"""),
    (7, """
>>> gui, linux, win = ("on", "gui"), ("on", "linux"), ("on", "win")
>>> desk, odd = ("all", (gui, ("any", (linux, win)))), ("any", (("all", (linux, ("not", gui))), ("all", (("not", linux), gui))))
>>> holds(desk, ("gui", "win")), holds(desk, ("linux", "win")), hangs_on(("any", (desk, gui)))
(True, False, ('gui',))
>>> plain_mark(("any", (win, linux)))
('any', (('on', 'linux'), ('all', (('not', ('on', 'linux')), ('on', 'win')))))
>>> with_word(desk, "linux", False), with_word(desk, "gui", False), parting_words(desk, gui), parting_words(odd, ("any", (linux, gui)))
(('all', (('on', 'gui'), ('on', 'win'))), ('any', ()), ('gui',), ('gui', 'linux'))
>>> marks_alike(("not", ("not", gui)), gui), follows(gui, desk), words_for(desk)
(True, False, [('gui', 'linux'), ('gui', 'linux', 'win'), ('gui', 'win')])
>>> reason(desk, ("gui", "linux")), reason(desk, ("linux", "win")), is_reason(desk, (), ("linux",))
(('gui', 'linux'), ('gui',), False)
>>> mark_text(desk), mark_text(("not", ("all", ()))), read_mark("[!a|(b)|[]]")
('(gui&[linux|win])', '!()', ('any', (('not', ('on', 'a')), ('all', (('on', 'b'),)), ('any', ()))))
>>> read_mark("(a|b)")
raises BadText(place=2)
"""),
    (8, """
>>> always, every, one, two = ("all", ()), (((0, 0, 0, -9), None),), (1, 0, 0, 0), (2, 0, 0, 0)
>>> app = ("app", one, (("lib", every, ("fast",), always),), (("web", (("net", every, (), ("on", "unix")),)),), (), False)
>>> old, new = ("lib", one, (), (("fast", ()),), (), False), ("lib", two, (), (), (("net", every),), False)
>>> net = ("net", (1, 0, 0, -1), (("ghost", every, (), always),), (), (), False)
>>> yard = (app, old, new, net)
>>> is_registry(yard), is_registry((old, app)), is_need(("lib", (), ("b", "a"), always)), names_in(yard), parts_of(yard, "lib")
(True, False, False, ('app', 'lib', 'net'), ('fast',))
>>> open_versions(yard, (), ("lib", "fast")), open_versions(yard, (), ("net", "")), open_versions(pull(yard, "lib", two), (), ("lib", ""))
(((1, 0, 0, 0),), (), ((1, 0, 0, 0),))
>>> registry_faults(yard), registry_faults(take_out(yard, "lib", one))[1], registry_faults((app,))[1][3:]
((('name', 'net', (1, 0, 0, -1), '', 0),), ('parts', 'app', (1, 0, 0, 0), '', 0), ('web', 0))
>>> speaking_of(yard, "net"), differing(yard, pull(yard, "lib", two)), put_together((app, new), (old, new)) == (app, old, new)
((('app', (1, 0, 0, 0)), ('lib', (2, 0, 0, 0))), (('lib', (2, 0, 0, 0)),), True)
>>> publish(yard, old)
raises Unfit()
>>> release_at(yard, "net", one)
raises NoRelease(version=(1, 0, 0, 0))
"""),
    (9, """
>>> wish = ((("app", every, ("web",), always), ("net", every, (), ("on", "win"))), ("unix",), ("net",))
>>> counting(wish), targets(wish[0][0]), name_order(yard, wish), order(yard, wish)[3:]
((0,), (('app', ''), ('app', 'web')), ('app', 'ghost', 'lib', 'net'), (('lib', ''), ('lib', 'fast'), ('net', '')))
>>> [states(yard, wish, own) for own in (("lib", ""), ("lib", "fast"), ("ghost", ""))], order_place(yard, wish, ("net", ""))
([(None, (2, 0, 0, 0), (1, 0, 0, 0)), (None, (1, 0, 0, 0)), (None,)], 5)
>>> lock_ranked(yard, wish, (1, 0, 0, 2, 0, 0)), ranks(yard, wish, ((("lib", ""), two),)), lots(yard, wish)
(((('app', ''), (1, 0, 0, 0)), (('lib', ''), (1, 0, 0, 0))), (0, 0, 0, 1, 0, 0), 48)
>>> reached(yard, wish) == order(yard, wish), reached(yard, (wish[0], (), ()))
(True, (('app', ''), ('app', 'web'), ('lib', ''), ('lib', 'fast')))
>>> gear = ("gear", one, (), (("all", (("gear", every, ("b",), always),)), ("b", (("gear", ((two, None),), (), always),))), (), False)
>>> closing((gear,), ((), (), ()), ("gear", "all"), one), [closes((gear,), ((), (), ()), ("gear", own), one) for own in ("", "all")]
((('gear', ''), ('gear', 'all'), ('gear', 'b')), [True, False])
>>> needs_of(yard, ("lib", "fast"), two)
raises Unfit()
"""),
)


def rows_of(text):
    """The pairs (line, what it tells), what it tells None if it only sets names."""
    rows = []
    for line in text.strip().splitlines():
        if line.startswith(">>> "):
            rows.append([line[4:], None])
        else:
            rows[-1][1] = line if rows[-1][1] is None else rows[-1][1] + line
    return rows


def raised_text(error):
    values = ", ".join([f"{name}={value!r}" for name, value in vars(error).items()])
    return f"raises {type(error).__name__}({values})"


class Examples(unittest.TestCase):
    def setUp(self):
        self.names = {}
        for file_name in FILES:
            module = importlib.import_module(f"newestfit.{file_name}")
            self.names.update({name: value for name, value in vars(module).items() if not name.startswith("_")})

    def look_at(self, line, told):
        if told is None:
            exec(line, self.names)
        elif told.startswith("raises "):
            with self.assertRaises((LookupError, ValueError)) as caught:
                eval(line, self.names)
            self.assertEqual(raised_text(caught.exception), told, line)
        else:
            # By their texts, so that 1 and True, a list and a tuple are not alike.
            self.assertEqual(repr(eval(line, self.names)), repr(eval(told, self.names)), line)

    def test_examples(self):
        seen = 0
        for point, text in EXAMPLES:
            for line, told in rows_of(text):
                with self.subTest(point=point, line=line):
                    self.look_at(line, told)
                seen += 1
        self.assertEqual(seen, 54)


if __name__ == "__main__":
    unittest.main()
