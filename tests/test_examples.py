"""Every example of points [4] to [24] of the document, word for word, names carried on from one to the next."""

import importlib
import unittest

FILES = ("errors", "versions", "ranges", "rangetexts", "marks", "registry", "items", "locks", "lines", "refusals",
         "solve", "best", "updates", "alllocks", "least", "plans", "store", "platforms", "reasons", "judge", "texts", "shell")

# (point, its examples): a line that tells nothing sets names.
EXAMPLES = (
    (4, """
>>> v, w = (1, 2, 3, 0), (1, 2, 4, -2)
>>> is_name("core"), is_name("Core"), is_name(""), is_version(v), is_version((1, 2, 3, 1)), is_version((1, 2, True, 0))
(True, False, False, True, False, False)
>>> version_text(v), version_text(w), read_version("1.2.4-2"), read_version("0.10.0")
('1.2.3', '1.2.4-2', (1, 2, 4, -2), (0, 10, 0, 0))
>>> is_early(w), released(w), compared(v, w), compared(w, w), first_unlike(v, w), first_unlike(v, v)
(True, (1, 2, 4, 0), -1, 0, 2, None)
>>> next_version(v), next_version(w), version_ahead((1, 2, 4, -9)), version_ahead((1, 2, 0, -9))
((1, 2, 4, -9), (1, 2, 4, -1), (1, 2, 3, 0), None)
>>> steps_on(v, 10), steps_on(v, -40), steps_on(w, 0), steps_between(v, w), steps_between(w, v), steps_between(v, (1, 3, 0, 0))
((1, 2, 4, 0), None, (1, 2, 4, -2), 8, -8, None)
>>> [next_release(w, place) for place in (0, 1, 2)], newest_of((v, w), False), newest_of((v, w), True), newest_of((w,), False), from_best((v, w, v))
([(2, 0, 0, 0), (1, 3, 0, 0), (1, 2, 5, 0)], (1, 2, 3, 0), (1, 2, 4, -2), None, ((1, 2, 4, -2), (1, 2, 3, 0)))
>>> read_version("1.2")
raises BadText(place=3)
>>> read_version("1.02.3")
raises BadText(place=3)
>>> read_version("1.2.3-12")
raises BadText(place=7)
"""),
    (5, """
>>> a, b = (((1, 0, 0, 0), (2, 0, 0, -9)),), (((0, 3, 0, 0), (1, 4, 0, -9)), ((3, 0, 0, 0), None))
>>> range_of((((2, 0, 0, 0), None), ((1, 2, 0, 0), (2, 0, 0, 0))))
(((1, 2, 0, 0), None),)
>>> in_range(a, (2, 0, 0, -1)), just(v), compatible((0, 2, 5, 0)) == close_to((0, 2, 5, 0)), below((0, 0, 0, -9))
(False, (((1, 2, 3, 0), (1, 2, 4, -9)),), True, ())
>>> both_of(a, b), all_but(a), taken_out(a, b)
((((1, 0, 0, 0), (1, 4, 0, -9)),), (((0, 0, 0, -9), (1, 0, 0, 0)), ((2, 0, 0, -9), None)), (((1, 4, 0, -9), (2, 0, 0, -9)),))
>>> is_inside(just((1, 1, 0, 0)), a), are_apart(a, from_on((2, 0, 0, -9))), parting_version(a, b), range_grains((a, b))[2]
(True, True, (0, 3, 0, 0), ((1, 0, 0, 0), (1, 4, 0, -9), (0, 1)))
>>> by_rows((a, b), ((0,),)) == taken_out(a, b), newest_in(a), newest_in(just(v)), next_in(b, (2, 0, 0, 0)), many_in(((v, (1, 2, 6, -4)),)), many_in(a)
(True, None, (1, 2, 3, 0), (3, 0, 0, 0), 26, None)
>>> least_release_in(((w, (1, 2, 4, 0)),)), shortened(a, ((0, 9, 0, 0), v, (1, 7, 0, 0), (3, 0, 0, 0)))
(None, (((1, 2, 3, 0), (3, 0, 0, 0)),))
>>> least_in(())
raises NoPaper()
"""),
    (6, """
>>> read_range("^1.2.3"), read_range("~0.4.0-2"), read_range(">=1.2.0,<1.4.0"), read_range("2.0.0..1.0.0")
((((1, 2, 3, 0), (2, 0, 0, -9)),), (((0, 4, 0, -2), (0, 5, 0, -9)),), (((1, 2, 0, 0), (1, 4, 0, 0)),), ())
>>> bounds_in(">=1.2.0,<2.0.0|=3.0.0-1"), row_range((">=1.2.0", "<2.0.0")), bound_range("1.4.*")
(((">=1.2.0", "<2.0.0"), ("=3.0.0-1",)), (((1, 2, 0, 0), (2, 0, 0, 0)),), (((1, 4, 0, -9), (1, 5, 0, -9)),))
>>> bounds_for(read_range("=0.0.3")), range_text(()), rewritten("<1.0.0|>=1.0.0"), rewritten("^1.2.3|2.*")
(('=0.0.3', '^0.0.3', '0.0.3..0.0.4-9'), 'none', '*', '1.2.3..3.0.0-9')
>>> parted_at("^1.2.3", ">=1.2.3,<2.0.0"), parted_at("<=1.2.3", "<1.2.4-9"), tell_alike("1.*", "^1.0.0")
((2, 0, 0, -9), None, False)
>>> several = "^1.2.0|=1.4.7|~2.0.0|1.5.0..2.1.0"
>>> rows_holding(several, (1, 5, 0, 0)), idle_rows(several), fewest_rows(several), is_range_text("1.2.3"), is_bound("<=01.0.0")
((0, 3), (1, 2), (0, 3), False, False)
>>> read_range("^1.2.3| =2.0.0")
raises BadText(place=7)
>>> read_range("1.2.3")
raises BadText(place=5)
"""),
    (7, """
>>> gui, linux, win = ("on", "gui"), ("on", "linux"), ("on", "win")
>>> desk, odd = ("all", (gui, ("any", (linux, win)))), ("any", (("all", (linux, ("not", gui))), ("all", (("not", linux), gui))))
>>> holds(desk, ("gui", "win")), holds(desk, ("linux", "win")), hangs_on(("any", (desk, gui)))
(True, False, ('gui',))
>>> plain_mark(("any", (win, linux)))
('any', (('on', 'linux'), ('all', (('not', ('on', 'linux')), ('on', 'win')))))
>>> with_word(desk, "linux", False), with_word(desk, "gui", False), parting_words(desk, gui), parting_words(odd, ("any", (linux, gui)))
(('all', (('on', 'gui'), ('on', 'win'))), ('any', ()), ('gui',), ('gui', 'linux'))
>>> marks_alike(("not", ("not", gui)), gui), follows(gui, desk), words_for(desk)
(True, False, [('gui', 'linux'), ('gui', 'linux', 'win'), ('gui', 'win')])
>>> reason(desk, ("gui", "linux")), reason(desk, ("linux", "win")), is_reason(desk, (), ("linux",))
(('gui', 'linux'), ('gui',), False)
>>> mark_text(desk), mark_text(("not", ("all", ()))), read_mark("[!a|(b)|[]]")
('(gui&[linux|win])', '!()', ('any', (('not', ('on', 'a')), ('all', (('on', 'b'),)), ('any', ()))))
>>> read_mark("(a|b)")
raises BadText(place=2)
"""),
    (8, """
>>> always, every, one, two = ("all", ()), (((0, 0, 0, -9), None),), (1, 0, 0, 0), (2, 0, 0, 0)
>>> app = ("app", one, (("lib", every, ("fast",), always),), (("web", (("net", every, (), ("on", "unix")),)),), (), False)
>>> old, new = ("lib", one, (), (("fast", ()),), (), False), ("lib", two, (), (), (("net", every),), False)
>>> net = ("net", (1, 0, 0, -1), (("ghost", every, (), always),), (), (), False)
>>> yard = (app, old, new, net)
>>> is_registry(yard), is_registry((old, app)), is_need(("lib", (), ("b", "a"), always)), names_in(yard), parts_of(yard, "lib")
(True, False, False, ('app', 'lib', 'net'), ('fast',))
>>> open_versions(yard, (), ("lib", "fast")), open_versions(yard, (), ("net", "")), open_versions(pull(yard, "lib", two), (), ("lib", ""))
(((1, 0, 0, 0),), (), ((1, 0, 0, 0),))
>>> registry_faults(yard), registry_faults(take_out(yard, "lib", one))[1], registry_faults((app,))[1][3:]
((('name', 'net', (1, 0, 0, -1), '', 0),), ('parts', 'app', (1, 0, 0, 0), '', 0), ('web', 0))
>>> speaking_of(yard, "net"), differing(yard, pull(yard, "lib", two)), put_together((app, new), (old, new)) == (app, old, new)
((('app', (1, 0, 0, 0)), ('lib', (2, 0, 0, 0))), (('lib', (2, 0, 0, 0)),), True)
>>> publish(yard, old)
raises Unfit()
>>> release_at(yard, "net", one)
raises NoRelease(version=(1, 0, 0, 0))
"""),
    (9, """
>>> wish = ((("app", every, ("web",), always), ("net", every, (), ("on", "win"))), ("unix",), ("net",))
>>> counting(wish), targets(wish[0][0]), name_order(yard, wish), order(yard, wish)[3:]
((0,), (('app', ''), ('app', 'web')), ('app', 'ghost', 'lib', 'net'), (('lib', ''), ('lib', 'fast'), ('net', '')))
>>> [states(yard, wish, own) for own in (("lib", ""), ("lib", "fast"), ("ghost", ""))], order_place(yard, wish, ("net", ""))
([(None, (2, 0, 0, 0), (1, 0, 0, 0)), (None, (1, 0, 0, 0)), (None,)], 5)
>>> lock_ranked(yard, wish, (1, 0, 0, 2, 0, 0)), ranks(yard, wish, ((("lib", ""), two),)), lots(yard, wish)
(((('app', ''), (1, 0, 0, 0)), (('lib', ''), (1, 0, 0, 0))), (0, 0, 0, 1, 0, 0), 48)
>>> reached(yard, wish) == order(yard, wish), reached(yard, (wish[0], (), ()))
(True, (('app', ''), ('app', 'web'), ('lib', ''), ('lib', 'fast')))
>>> gear = ("gear", one, (), (("all", (("gear", every, ("b",), always),)), ("b", (("gear", ((two, None),), (), always),))), (), False)
>>> closing((gear,), ((), (), ()), ("gear", "all"), one), [closes((gear,), ((), (), ()), ("gear", own), one) for own in ("", "all")]
((('gear', ''), ('gear', 'all'), ('gear', 'b')), [True, False])
>>> needs_of(yard, ("lib", "fast"), two)
raises Unfit()
"""),
    (10, """
>>> old, new, every, always = (1, 0, 0, 0), (2, 0, 0, 0), (((0, 0, 0, -9), None),), ("all", ())
>>> quick = (("fast", (("simd", every, (), ("on", "lanes")),)),)
>>> shop = (("json", old, (), (), (), False), ("json", new, (), quick, (), False), ("simd", old, (), (), (), False), ("web", old, (("json", every, (), always),), (), (), False), ("web", new, (("json", ((new, None),), ("fast",), always),), (), (), False))
>>> wish = ((("web", every, (), always),), ("lanes",), ())
>>> full = ((("json", ""), new), (("json", "fast"), new), (("simd", ""), old), (("web", ""), new))
>>> fits(shop, wish, full), faults(shop, wish, full[:2] + full[3:]), faults(shop, wish, ())
(True, [('need', ('json', 'fast'), (2, 0, 0, 0), 0, '')], [('wish', 0, '')])
>>> first_fault(shop, wish, ((("web", ""), (3, 0, 0, 0)),))
('none', ('web', ''), (((3, 0, 0, 0), (3, 0, 1, -9)),))
>>> stale = ((("json", ""), old), (("simd", ""), old), (("web", ""), old))
>>> needed(shop, wish, stale), lean(shop, wish, stale) == with_state(stale, ("simd", ""), None)
((('json', ''), ('web', '')), True)
>>> first_other(shop, wish, stale, full), is_better(shop, wish, full, stale), by_names(full[:2])
(('web', ''), True, (('json', (2, 0, 0, 0), ('fast',)),))
>>> by_names(full[1:])
raises Unfit()
"""),
    (11, """
>>> versions, one, two, anywhere = (((0, 0, 0, -9), None),), (1, 0, 0, 0), (2, 0, 0, 0), ("all", ())
>>> app, lib, under_two = ("app", ""), ("lib", ""), (((0, 0, 0, -9), two),)
>>> registry = (("app", one, (("lib", under_two, (), anywhere),), (), (), False), ("lib", two, (), (), (), False))
>>> wish = ((("app", versions, (), anywhere),), (), ())
>>> just_one, from_two = (app, False, ((one, (1, 0, 1, -9)),)), (lib, True, ((two, None),))
>>> leaf_line(registry, wish, ("need", app, one, 0, "")) == (just_one, from_two), leaf_line(registry, wish, ("wish", 0, "")) == ((app, True, ()),)
(True, True)
>>> [own[0] for own in leaves(registry, wish)], leaves(registry, wish)[3][2] == under_two + (((2, 0, 1, -9), None),)
(['wish', 'need', 'none', 'none'], True)
>>> met_leaves(registry, wish, ((app, one), (lib, two))), met_leaves(registry, wish, ())
([('need', ('app', ''), (1, 0, 0, 0), 0, '')], [('wish', 0, '')])
>>> met_leaves(registry, wish, ((app, one), (lib, one)))[0][0], line_begun((just_one, from_two), ((app, one), (lib, None)))
('none', True)
>>> term_both(from_two, (lib, True, under_two)), term_either(from_two, (lib, False, under_two)) == (lib, True, versions), term_not(from_two) == (lib, False, under_two)
((('lib', ''), True, ()), True, True)
>>> line_of((from_two, just_one, from_two)) == (just_one, from_two), term_at((just_one,), lib) == (lib, True, versions)
(True, True)
>>> line_inside((just_one, from_two), (just_one,)), parting_lock((just_one,), (just_one, from_two))[0] == (app, one)
(True, True)
>>> is_line(((lib, True, versions),)), is_term((lib, True, versions)), is_leaf(registry, wish, ("none", lib, under_two))
(False, True, True)
>>> term_both(just_one, from_two)
raises Unfit()
"""),
    (12, """
>>> need_leaf, no_lib = ("leaf", ("need", app, one, 0, "")), ("leaf", leaves(registry, wish)[3])
>>> no_app, wish_leaf = ("leaf", leaves(registry, wish)[2]), ("leaf", ("wish", 0, ""))
>>> app_out = ("join", lib, need_leaf, no_lib)
>>> refusal_line(registry, wish, app_out) == (just_one,), refusal_line(registry, wish, ("join", app, app_out, wish_leaf)) == ((app, True, just_one[2]),)
(True, True)
>>> refused = joined_all(app, (app_out, wish_leaf, no_app))
>>> refuses(registry, wish, refused), refuses(registry, wish, app_out), refuses_beginning(registry, wish, ((app, one),), app_out), is_refusal(registry, wish, app_out)
(True, False, True, True)
>>> [leaf_reached(registry, wish, refused, own)[0] for own in ((), ((app, one), (lib, two)), ((app, two),))]
['wish', 'need', 'none']
>>> needs_used(refused), releases_used(refused), joins_in(refused), items_joined(refused) == (app, lib), len(leaves_used(refused))
((0,), (('app', (1, 0, 0, 0)),), 3, True, 4)
>>> trimmed(registry, wish, ("join", lib, refused, need_leaf)) == refused, rows_of(refused)[2], len(rows_of(refused)), of_rows(rows_of(refused)) == refused
(True, ('join', ('lib', ''), 0, 1), 7, True)
>>> lines_by_rows(registry, wish, rows_of(refused))[2:3] == [(just_one,)], is_rows((("join", app, 0, 0),))
(True, False)
>>> leaf_reached(registry, wish, app_out, ())
raises Unfit()
"""),
    (13, """
>>> ok, every, one, two = ("all", ()), (((0, 0, 0, -9), None),), (1, 0, 0, 0), (2, 0, 0, 0)
>>> new, old, app, lib, net = (((2, 0, 0, -9), None),), (((0, 0, 0, -9), (2, 0, 0, -9)),), ("app", ""), ("lib", ""), ("net", "")
>>> apps = (("app", one, (("lib", every, (), ok),), (), (), False), ("app", two, (("lib", new, (), ok), ("net", every, (), ok)), (), (), False))
>>> shelf = apps + (("lib", one, (), (), (), False), ("lib", two, (("net", old, (), ok),), (), (), False), ("net", two, (), (), (), False))
>>> want, hard = ((("app", every, (), ok),), (), ()), ((("app", new, (), ok),), (), ())
>>> solved(shelf, want), best_having(shelf, want, ((net, two),))[2:]
(('lock', ((('app', ''), (1, 0, 0, 0)), (('lib', ''), (1, 0, 0, 0)))), ((('net', ''), (2, 0, 0, 0)),))
>>> len(looked_at(shelf, want)), looked_at(shelf, want)[:3], next_item(shelf, want, ((app, one),))
(15, [(), ((('app', ''), None),), ((('app', ''), (2, 0, 0, 0)),)], ('lib', ''))
>>> no_net = ("leaf", ("need", lib, two, 0, ""))
>>> first_known(shelf, want, (no_net, closed(shelf, want, net, (no_net, no_net))), ((app, one), (lib, two))), leaf_against(shelf, want, ((app, None),))
(1, ('wish', 0, ''))
>>> best_having(shelf, want, ((lib, two),))
raises NoPaper()
>>> closed(shelf, want, net, (no_net,))
raises Unfit()
"""),
    (14, """
>>> locks = tuple(best_locks(shelf, want, 9))
>>> len(locks), locks[0] == best_lock(shelf, want), locks[1] == best_having(shelf, want, ((net, two),)), rank_of(shelf, want, locks[1])
(2, True, True, 1)
>>> turned_down(shelf, want), turnings_ahead(shelf, want, locks[:1])[2]
([(('app', ''), None), (('app', ''), (2, 0, 0, 0)), (('lib', ''), None), (('lib', ''), (2, 0, 0, 0))], ((('app', ''), (1, 0, 0, 0)), (('lib', ''), None)))
>>> turnings(shelf, want, locks[:1])[4][2], turnings(shelf, want, locks) == turnings_ahead(shelf, want, locks[:1]), turnings(shelf, hard, ())
((('net', ''), (2, 0, 0, 0)), True, [()])
>>> mine = rank_paper(shelf, want, locks[:1])
>>> [len(mine), is_rank_paper(shelf, want, locks[:1], mine), is_full_paper(shelf, want, locks, mine), is_full_paper(shelf, want, locks[:1], mine)]
[4, True, True, False]
>>> is_better_lock(shelf, want, locks[1], locks[0]), next_best(shelf, want, locks[0]) == locks[1], rank_paper(shelf, hard, ())
(True, True, ())
>>> full_paper(shelf, want, locks[:1])
raises NoPaper()
>>> rank_of(shelf, want, ())
raises Unfit()
"""),
    (15, """
>>> yes, one, two, last = ("all", ()), (1, 0, 0, 0), (2, 0, 0, 0), (1, 1, 0, 0)
>>> ones, twos, app, lib = ((one, two),), ((two, None),), ("app", ""), ("lib", "")
>>> apps = (("app", one, (("lib", ones, (), yes),), (), (), False), ("app", two, (("lib", twos, (), yes),), (), (), False))
>>> shelf = apps + tuple([("lib", own, (), (), (), False) for own in (one, last, two)])
>>> wish, late, old = ((("app", ((one, None),), (), yes),), (), ()), ((("app", twos, (), yes),), (), ()), ((app, one), (lib, one))
>>> updated(shelf, wish, old) == old, refreshed(shelf, wish, old, ("lib",)), lost(shelf, late, old), updated(shelf, late, old)[1]
(True, ((('app', ''), (1, 0, 0, 0)), (('lib', ''), (1, 1, 0, 0))), (('app', ''), ('lib', '')), (('lib', ''), (2, 0, 0, 0)))
>>> is_lost_paper(shelf, late, old, app, ("leaf", ("wish", 0, ""))), is_lost_paper(shelf, late, old, lib, ("leaf", ("need", app, two, 0, "")))
(True, True)
>>> fate(shelf, ((), (), ()), old, lib), kept_states(shelf, wish, old, lib)[:3]
('needless', ((1, 0, 0, 0), None, (2, 0, 0, 0)))
>>> updated((), wish, old)
raises NoPaper()
"""),
    (16, """
>>> lean_locks(shelf, wish)
[((('app', ''), (2, 0, 0, 0)), (('lib', ''), (2, 0, 0, 0))), ((('app', ''), (1, 0, 0, 0)), (('lib', ''), (1, 1, 0, 0))), ((('app', ''), (1, 0, 0, 0)), (('lib', ''), (1, 0, 0, 0)))]
>>> how_many(shelf, wish), lean_at(shelf, wish, 2) == old, lean_number(shelf, wish, old), sure(shelf, wish), sure(shelf, late)[0]
(3, True, 2, (), (('app', ''), (2, 0, 0, 0)))
>>> [own[1] for own in dead(shelf, late)], states_had(shelf, wish, lib), [own[1] for own in shares(shelf, wish)], len(cover(shelf, wish))
([(1, 0, 0, 0), (1, 0, 0, 0), (1, 1, 0, 0)], ((2, 0, 0, 0), (1, 1, 0, 0), (1, 0, 0, 0)), [2, 1, 1, 1, 1], 3)
>>> kind_of(shelf, ((), (), ()), lib, two), kind_of(shelf, wish, lib, last), kind_of(shelf, late, lib, one), kind_of(shelf, wish, lib, (9, 0, 0, 0))
('idle', 'live', 'dead', 'shut')
>>> pairs_apart(shelf, wish)[0], len(pairs_apart(shelf, wish)), is_sure_paper(shelf, late, app, two, ("leaf", ("wish", 0, "")))
(((('app', ''), (1, 0, 0, 0)), (('lib', ''), (2, 0, 0, 0))), 3, True)
>>> sure_paper(shelf, wish, app, two)
raises NoPaper()
>>> lean_at(shelf, wish, 3)
raises Unfit()
"""),
    (17, """
>>> k1, k2, ok, each = (1, 0, 0, 0), (2, 0, 0, 0), ("all", ()), (((0, 0, 0, -9), None),)
>>> low, high = ((k1, k2),), ((k2, None),)
>>> sheet = (("hub", k1, "pen", each), ("hub", k2, "pen", high), ("ink", k1, "", ()), ("ink", k2, "", ()), ("pen", k1, "ink", low), ("pen", k2, "ink", high))
>>> stall = tuple([(name, own, ((to, line, (), ok),) if to != "" else (), (), (), False) for name, own, to, line in sheet])
>>> hopes, nailed = ((("hub", high, (), ok), ("pen", each, (), ok)), (), ()), ((("hub", ""), k2), (("ink", ""), k1), (("pen", ""), k1))
>>> cores(stall, hopes, nailed), drops(stall, hopes, nailed), blame(stall, hopes, nailed), loosened(stall, hopes, nailed)
([(0, 3), (0, 4), (2, 3), (2, 4)], [(0, 2), (3, 4)], (0, 3), (3, 4))
>>> core(stall, hopes, nailed), drop(stall, hopes, nailed), least_meets(((2, 3), (2, 4))), least_meets(())
((0, 3), (3, 4), [(2,), (3, 4)], [()])
>>> clashing(stall, hopes, (), (0, 2))
raises NoNeed(number=2)
>>> blame(stall, hopes, ())
raises NoPaper()
"""),
    (18, """
>>> older, newer = [tuple([((name, ""), own) for name in ("hub", "ink", "pen")]) for own in (k1, k2)]
>>> mild = ((("hub", each, (), ok),), (), ())
>>> changed(older, newer), arrows(stall, mild, older, newer), all_ahead(stall, mild, older, newer)
(('hub', 'ink', 'pen'), (('hub', 'pen'), ('ink', 'pen'), ('pen', 'ink')), [(), ('hub', 'ink', 'pen'), ('ink', 'pen')])
>>> plan(stall, mild, older, newer), plan(stall, mild, newer, older), knots(stall, mild, older, newer)
((('ink', 'pen'), ('hub',)), (('hub',), ('ink', 'pen')), [('hub',), ('ink', 'pen')])
>>> why_arrow(stall, mild, older, newer, "ink", "pen"), goes_with(stall, mild, older, newer, "ink"), is_tie(stall, mild, older, newer, ("pen", "ink"))
([('need', ('pen', ''), (1, 0, 0, 0), 0, '')], ('ink', 'pen'), True)
>>> plan(stall, mild, (), newer)
raises Unfit()
>>> tie(stall, mild, older, older)
raises NoPaper()
"""),
    (19, """
>>> bare, one, two = blank_disk(2, 2), (1, 0, 0, 0), (2, 0, 0, 0)
>>> disk = written(bare, install_steps(bare, ((("a", ""), one),)))
>>> disk[0], disk[1], earlier_lock(disk)
(("done", 1), (("note", 0, (), ("has", ("a", ""), (1, 0, 0, 0))), ()), ())
>>> lock = ((("a", ""), two), (("b", ""), one))
>>> steps = install_steps(disk, lock)
>>> late = cut_behind(disk, steps, 4)
>>> late[0], late[2], read_disk(late) == lock, mended(late) == written(disk, steps)
(("go", 2), (("torn",), ()), True, True)
>>> read_locks(disk, steps) == (read_disk(disk), lock), is_safe(disk, steps, lock), is_safe(disk, steps[:6] + steps[7:], lock)
(True, True, False)
>>> read_disk(((), ((),), (("torn",),)))
raises Unfit()
"""),
    (20, """
>>> one, two, always, win = (1, 0, 0, 0), (2, 0, 0, 0), ("all", ()), ("on", "win")
>>> every, low, high = (((0, 0, 0, -9), None),), (((0, 0, 0, -9), (2, 0, 0, -9)),), (((2, 0, 0, -9), None),)
>>> app = ("app", one, (("gui", every, (), win), ("tty", every, (), ("not", win)), ("core", every, (), always)), (), (), False)
>>> kerns = (("core", one, (), (), (), False), ("core", two, (), (), (), False))
>>> house = (app,) + kerns + (("gui", one, (("core", low, (), always),), (), (), False), ("tty", one, (("core", high, (), always),), (), (), False))
>>> wish, both = ((("app", every, (), always),), (), ()), words_by((), ("win",))
>>> both, idle_words(house, wish), kinds(house, wish, both)
(((), ('win',)), (), (((),), (('win',),)))
>>> lock_table(house, wish, both)[1]
((('app', ''), (1, 0, 0, 0)), (('core', ''), (1, 0, 0, 0)), (('gui', ''), (1, 0, 0, 0)))
>>> more = house + (("tty", two, (), (), (), False),)
>>> one_lock(more, wish, both)[3], len(few_locks(house, wish, both)), parting_platforms(house, wish, both)
((('tty', ''), (2, 0, 0, 0)), 2, ((), ('win',)))
>>> one_lock(house, wish, both)
raises NoPaper()
"""),
    (21, """
>>> wished, kern = (wish[0], ("win",), ()), ("core", "")
>>> lock = lock_table(house, wish, both)[1]
>>> asks(house, wished, lock)
(((), 0, ('app', '')), (('app', ''), 0, ('gui', '')), (('app', ''), 2, ('core', '')), (('gui', ''), 0, ('core', '')))
>>> way_to(house, wished, lock, kern), in_each_way(house, wished, lock, kern), asks_to_drop(house, wished, lock, kern)
((((), 0, ('app', '')), (('app', ''), 2, ('core', ''))), (('app', ''),), (((), 0, ('app', '')),))
>>> must_releases(more, wish), harm(more, wish, "core", two), hurt(more, (wish, wished), "gui", one)
((('app', (1, 0, 0, 0)),), ((('core', ''), (2, 0, 0, 0), (1, 0, 0, 0)),), ((), (1,)))
>>> way_to(house, wished, lock, ("tty", ""))
raises NoName(name='tty')
"""),
    (22, """
>>> anything, everywhere, early_on, later_on = (((0, 0, 0, -9), None),), ("all", ()), (1, 0, 0, 0), (2, 0, 0, 0)
>>> cup, leaf_tea = ("cup", early_on, (), (), (), False), ("tea", early_on, (("cup", anything, (), everywhere),), (), (), False)
>>> new_tea = ("tea", later_on, (("cup", ((later_on, None),), (), everywhere),), (), (), False)
>>> shelf_of, thirst = (cup, leaf_tea, new_tea), ((("tea", anything, (), everywhere),), (), ())
>>> strict, served = ((("tea", ((later_on, None),), (), everywhere),), (), ()), ((("cup", ""), early_on), (("tea", ""), early_on))
>>> paper(("solved", shelf_of, thirst)) == served, is_so(("solved", shelf_of, strict)), is_so(("best", shelf_of, thirst, served))
(True, False, True)
>>> cupless, later_tea = ("join", ("cup", ""), ("leaf", ("need", ("tea", ""), later_on, 0, "")), ("leaf", ("none", ("cup", ""), ((later_on, None),)))), ("leaf", ("none", ("tea", ""), (((2, 0, 1, -9), None),)))
>>> tree = ("join", ("tea", ""), ("join", ("tea", ""), ("leaf", ("wish", 0, "")), cupless), later_tea)
>>> shows(("solved", shelf_of, strict), tree), shows(("solved", shelf_of, thirst), tree), shows(("begun", shelf_of, thirst, ((("tea", ""), later_on),)), tree)
(False, None, False)
>>> shows(("core", shelf_of, strict, (), (0,)), ((0,), tree, ((),))), not_so((("solved", shelf_of, strict), ("solved", shelf_of, thirst)))
(True, (0,))
>>> shows(("alike", ("on", "home"), ("all", ())), ()), words_so((("alike", ("on", "home"), ("on", "home")), ("solved", shelf_of, strict)))
(False, ('alike',))
>>> is_claim(("solved", shelf_of, thirst)), is_claim(("solved", shelf_of)), is_claim(("alike", ("on", "home"), ("on", "A")))
(True, False, False)
>>> is_so(("solved", shelf_of))
raises Unfit()
>>> is_so(("proud", shelf_of))
raises NoWord(word='proud')
"""),
    (23, """
>>> lock_text(full), lock_changes(stale, full)
('lock\\n json 2.0.0\\n json/fast 2.0.0\\n simd 1.0.0\\n web 2.0.0', '~ json 1.0.0 2.0.0\\n+ json/fast 2.0.0\\n~ web 1.0.0 2.0.0')
>>> lock_changed(stale, lock_changes(stale, full)) == full, lock_turned("+ json/fast 2.0.0"), lock_text(()), registry_text(())
(True, '- json/fast 2.0.0', 'lock', '')
>>> read_registry(registry_text(shop)) == shop, read_registry("release simd 1.0.0\\n pulled\\n part fast"), read_wish("wish\\n early simd")
(True, (('simd', (1, 0, 0, 0), (), (('fast', ()),), (), True),), ((), (), ('simd',)))
>>> read_registry("release simd 1.0.0\\n part fast\\n pulled")
raises BadLine(number=3)
>>> read_lock("lock\\n web 1.0.0\\n json 1.0.0")
raises BadLine(number=3)
>>> lock_changed(stale, "- json 2.0.0")
raises BadLine(number=1)
"""),
    (24, """
>>> start = session(first_shell(), "registry\\n release app 1.0.0\\n  need lib *\\n release lib 1.0.0\\n release lib 2.0.0")[0]
>>> here, said = session(start, "status\\nadd app *\\nlock\\nwhy lib\\nadd lib <2.0.0\\nstatus\\nlock\\ninstall\\nadd lib =2.0.0\\nlock\\nblame\\nundo\\nstatus\\ndisk")
>>> said[:8], said[8:]
(('none', 'done', 'done', 'app 0', 'done', 'broken', 'done', 'done'), ('done', 'refused NoPaper', '1 2', 'add', 'best', 'lock\\n app 1.0.0\\n lib 1.0.0'))
>>> session(here, "redo\\nredo\\nwhy gui")[1], [is_request(own) for own in ("cut 007", "registry", "registry\\n ")]
(('add', 'refused NothingDone', 'refused Unfit'), [False, False, True])
>>> session(start, "lock\\nfetch")
raises BadLine(number=2)
"""),
)


def rows_of(text):
    """The pairs (line, what it tells), what it tells None if it only sets names."""
    rows = []
    for line in text.strip().splitlines():
        if line.startswith(">>> "):
            rows.append([line[4:], None])
        else:
            rows[-1][1] = line if rows[-1][1] is None else rows[-1][1] + line
    return rows


def raised_text(error):
    values = ", ".join([f"{name}={value!r}" for name, value in vars(error).items()])
    return f"raises {type(error).__name__}({values})"


class Examples(unittest.TestCase):
    def setUp(self):
        self.names = {}
        for file_name in FILES:
            module = importlib.import_module(f"newestfit.{file_name}")
            self.names.update({name: value for name, value in vars(module).items() if not name.startswith("_")})

    def look_at(self, line, told):
        if told is None:
            exec(line, self.names)
        elif told.startswith("raises "):
            with self.assertRaises((LookupError, ValueError)) as caught:
                eval(line, self.names)
            self.assertEqual(raised_text(caught.exception), told, line)
        else:
            # By their texts, so that 1 and True, a list and a tuple are not alike.
            self.assertEqual(repr(eval(line, self.names)), repr(eval(told, self.names)), line)

    def test_examples(self):
        seen = 0
        for point, text in EXAMPLES:
            for line, told in rows_of(text):
                with self.subTest(point=point, line=line):
                    self.look_at(line, told)
                seen += 1
        self.assertEqual(seen, 193)


if __name__ == "__main__":
    unittest.main()
