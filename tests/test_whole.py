"""[1] and [2] over the whole program: each function by names, with lists for tuples, twice over; each thing of all shapes."""

import ast
import copy
import importlib
import inspect
import pathlib
import unittest

from newestfit.platforms import for_all
from newestfit.refusals import rows_of
from newestfit.solve import refusal_of
from newestfit.store import blank_disk, cut_behind, install_steps, written
from newestfit.texts import lock_changes, lock_text, need_text, registry_text, wish_text
from interface import FUNCTIONS
from plain import MILD, NEWER, OLDER, STALL
from support import Case, EVERY, NO, ODD_THINGS, ONE, TWO, YARD, YES, as_lists, bent, half_lists, has_lists, nested

PACKAGE = pathlib.Path(__file__).resolve().parent.parent / "newestfit"
LOW, HIGH = ((ONE, TWO),), ((TWO, None),)
WIN = ("on", "win")
APP, LIB, FAST, NET = ("app", ""), ("lib", ""), ("lib", "fast"), ("net", "")
# app 2 needs the new lib with fast, that one a net on win; app 1 needs just some lib.
SHELF = (("app", ONE, (("lib", EVERY, (), YES),), (), (), False),
         ("app", TWO, (("lib", HIGH, ("fast",), YES),), (("gui", (("net", EVERY, (), WIN),)),), (), False),
         ("lib", ONE, (), (), (("net", HIGH),), False), ("lib", TWO, (), (("fast", (("net", EVERY, (), WIN),)),), (), False),
         ("net", ONE, (), (), (), False))
WISH = ((("app", EVERY, (), YES), ("net", EVERY, (), ("on", "mac"))), ("win",), ("net",))
HARD = ((("app", HIGH, (), YES), ("lib", LOW, (), YES)), (), ())
LATE = (HARD[0][:1], ("win",), ("net",))
BEST = ((APP, TWO), (LIB, TWO), (FAST, TWO), (NET, ONE))
OLD = ((APP, ONE), (LIB, ONE))
REFUSAL = refusal_of(SHELF, HARD)
DISK = written(blank_disk(4, 5), install_steps(blank_disk(4, 5), OLD))
STEPS = install_steps(DISK, BEST)
HOUSE = (SHELF, WISH, BEST, DISK)
SHELL = (HOUSE, (("word", (SHELF, HARD, None, DISK)),), (("lock", HOUSE),))
TERM, OTHER = (APP, False, LOW), (LIB, True, HIGH)
MARKS = {"mark": ("any", (("not", WIN), ("all", (WIN, ("on", "mac"))))), "one": WIN, "other": ("not", ("on", "mac")),
         "words": ("lin", "win"), "name": "win", "there": True, "thing": ("win",), "text": "[a|(b&!c)|()]"}
LOCKS = {"registry": SHELF, "wish": WISH, "lock": BEST, "one": BEST, "other": OLD, "item": LIB, "state": ONE, "version": TWO,
         "need": ("lib", HIGH, ("fast",), WIN), "old": OLD, "release": ("lib", (3, 0, 0, 0), (), (), (), False), "names": ("app", "lib"),
         "number": 1, "many": 3, "locks": (BEST,), "beginning": ((APP, ONE), (NET, None)), "begun": ((APP, TWO), (LIB, ONE)),
         "near": OLD, "far": BEST, "family": ((), ("mac",), ("win",)), "rows": (("app", ONE, ()), ("lib", TWO, ("fast",))), "name": "lib",
         "early": ("net",), "places": (1, 0, 0, 1, 0), "wishes": (WISH, HARD), "x": "app", "y": "lib", "numbers": (0, 1),
         "surely": ("a",), "maybe": ("b", "c"), "words": ("win",), "sets": ((0, 2), (1, 2), (0, 1)), "thing": BEST}
# What each file's functions are called with, by the names of their parameters; several rows each.
VERSIONS = {"version": (1, 2, 3, 0), "one": (1, 2, 3, 0), "other": (1, 2, 4, -2), "many": -7, "place": 1, "early": True, "text": "1.2.3-4",
            "versions": ((1, 2, 3, 0), (1, 2, 4, -2), (1, 2, 3, 0)), "thing": (1, 2, 3, 0)}
RANGES = {"span": (LOW[0], ((3, 0, 0, 0), None)), "spans": (LOW, HIGH, EVERY), "one": LOW, "other": (((0, 0, 0, -9), (1, 5, 0, 0)),),
          "version": (1, 5, 0, 0), "pairs": (HIGH[0], LOW[0], (TWO, ONE)), "rows": ((0,), (0, 1)), "versions": (TWO, ONE, (1, 5, 0, 0)),
          "bound": "^1.2.3", "row": (">=1.0.0", "<2.0.0"), "text": "^1.2.0|=1.4.7|~2.0.0", "thing": LOW}
TEXTS = {"registry": SHELF, "wish": WISH, "lock": OLD, "need": WISH[0][1], "one": OLD, "other": BEST}
CONTEXTS = {
    "versions": [VERSIONS, {**VERSIONS, "one": TWO, "other": TWO, "many": 10 ** 6, "version": (0, 0, 0, -9), "early": False, "versions": ()}],
    "ranges": [RANGES, {**RANGES, "span": LOW, "other": LOW, "spans": (), "rows": ()}],
    "rangetexts": [{**RANGES, "span": LOW, "one": "1.*", "other": "^1.0.0"}, {**RANGES, "span": HIGH, "one": "*", "other": ">=0.0.0-9", "text": "none"}],
    "marks": [MARKS, {**MARKS, "mark": YES, "one": NO, "other": YES, "words": (), "there": False, "text": "!x"}],
    "registry": [{**LOCKS, "one": SHELF[:3], "other": SHELF[2:], "thing": SHELF}, {**LOCKS, "registry": YARD, "one": YARD, "other": (), "version": ONE}],
    "items": [LOCKS, {**LOCKS, "wish": HARD, "item": FAST, "lock": OLD, "places": (1, 0, 2, 0, 0)}],
    "locks": [LOCKS, {**LOCKS, "lock": OLD, "one": OLD, "item": ("zoo", "p"), "state": None}],
    "lines": [{**LOCKS, "term": TERM, "one": TERM, "other": (APP, True, HIGH), "terms": (OTHER, TERM, OTHER), "line": (TERM, OTHER), "near": (TERM,),
               "far": (OTHER,), "item": APP, "leaf": ("need", APP, TWO, 0, "fast")},
              {**LOCKS, "term": OTHER, "one": (TERM,), "other": (TERM, OTHER), "terms": (), "line": (), "near": (), "far": (TERM,),
               "leaf": ("none", FAST, LOW)}],
    "refusals": [{**LOCKS, "wish": HARD, "refusal": REFUSAL, "refusals": (REFUSAL, REFUSAL[2]), "rows": rows_of(REFUSAL), "lock": OLD}],
    "solve": [{**LOCKS, "refusals": (REFUSAL,)}, {**LOCKS, "beginning": ((APP, None),), "refusals": (REFUSAL,)}, {**LOCKS, "wish": HARD, "beginning": (), "refusals": (REFUSAL,) * 3}],
    "best": [LOCKS, {**LOCKS, "lock": OLD, "locks": (), "number": 0, "thing": BEST}, {**LOCKS, "wish": HARD, "locks": ()}],
    "updates": [LOCKS, {**LOCKS, "old": BEST, "wish": LATE, "item": FAST}, {**LOCKS, "wish": LATE, "item": APP, "thing": REFUSAL}],
    "alllocks": [LOCKS, {**LOCKS, "item": NET, "version": ONE, "wish": (WISH[0], (), ())}, {**LOCKS, "wish": HARD, "thing": REFUSAL}],
    "least": [LOCKS, {**LOCKS, "wish": HARD, "begun": (), "numbers": (0, 1)}, {**LOCKS, "numbers": ()},
              {**LOCKS, "wish": HARD, "begun": (), "numbers": (1,)}],
    "plans": [{**LOCKS, "name": "net"}, {**LOCKS, "near": OLD[:1]}, {**LOCKS, "registry": STALL, "wish": MILD, "near": OLDER, "far": NEWER,
                                                                   "x": "pen", "y": "ink", "name": "pen", "names": ("ink", "pen"), "thing": (("ink", "pen"), ("hub",))},
              {**LOCKS, "near": BEST, "far": OLD, "x": "lib", "y": "app", "names": ("app", "lib", "net")}],
    "store": [{"disk": DISK, "writing": STEPS, "lock": BEST, "many": 4, "notes": 2, "rooms": 3, "thing": DISK},
              {"disk": cut_behind(DISK, STEPS, 9), "writing": (), "lock": (), "many": 0, "notes": 1, "rooms": 1, "thing": ()},
              {"disk": DISK, "writing": STEPS[:-3], "lock": BEST, "many": 99, "notes": 1, "rooms": 2, "thing": DISK}],
    "platforms": [LOCKS, {**LOCKS, "wish": HARD, "family": ((),), "maybe": ()}],
    "reasons": [LOCKS, {**LOCKS, "wish": LATE, "name": "app", "item": APP}, {**LOCKS, "item": FAST, "version": ONE}, {**LOCKS, "item": NET, "name": "net", "version": ONE, "wish": (WISH[0][:1], ("win",), ("net",))}],
    "judge": [{"claim": ("best", SHELF, WISH, BEST), "claims": (("solved", SHELF, HARD), ("alike", WIN, WIN)), "thing": BEST},
              {"claim": ("core", SHELF, HARD, (), (0, 1)), "claims": (), "thing": REFUSAL},
              {"claim": ("single", SHELF, WISH, OLD, BEST), "claims": (("everywhere", SHELF, WISH, ((), ("win",))),), "thing": ()},
              {"claim": ("lost", SHELF, WISH, OLD, LIB), "claims": (("begun", SHELF, WISH, ()), ("solved", SHELF, WISH)), "thing": ()}],
    "texts": [{**TEXTS, "text": registry_text(SHELF)}, {**TEXTS, "text": wish_text(WISH)}, {**TEXTS, "text": lock_text(BEST)},
              {**TEXTS, "text": need_text(SHELF[1][2][0])}, {**TEXTS, "text": lock_changes(OLD, BEST)}],
    "shell": [{"house": HOUSE, "shell": SHELL, "request": request, "text": "undo\nredo\nwhy lib\nlock", "thing": request}
              for request in ("lock", "install", "add lib *", "pull lib 2.0.0", "cut 2", "why lib", "blame", "status", "registry\n release a 1.0.0")],
}


def each_call():
    """The triples (function, its parameters, a row to call it with), over the whole interface."""
    for file_name, told in FUNCTIONS.items():
        module = importlib.import_module(f"newestfit.{file_name}")
        for word in told.split():
            function = getattr(module, word.partition("(")[0])
            names = list(inspect.signature(function).parameters)
            for context in CONTEXTS[file_name]:
                yield file_name, function, {name: context[name] for name in names}


def outcome(call):
    """What call tells, or raises with what that keeps."""
    try:
        return call()
    except (LookupError, ValueError) as error:
        return (type(error).__name__, vars(error))


def is_raised(told):
    return isinstance(told, tuple) and len(told) == 2 and isinstance(told[1], dict)


class Calls(Case):
    def test_by_names_with_lists_twice_over(self):
        raised, fine = set(), set()
        for file_name, function, row in each_call():
            with self.subTest(function=function.__name__):
                expected = outcome(lambda: function(**copy.deepcopy(row)))
                (raised if is_raised(expected) else fine).add((file_name, function.__name__))
                for turned in (lambda value: value, as_lists, half_lists):
                    own = {name: value if name == "thing" else turned(value) for name, value in row.items()}
                    kept = repr(own)
                    for call in (lambda: function(**own), lambda: function(*own.values()), lambda: function(**dict(list(own.items())[::-1]))):
                        told = outcome(call)
                        self.same(told, expected, (function.__name__, own))
                        self.assertEqual(repr(own), kept, function.__name__)
                        # What a caller does to a list is nothing to the next one.
                        if isinstance(told, list):
                            told.append("changed")
        # Each function has a row at which it tells something.
        self.assertEqual(raised - fine, set())

    def test_results_are_made_of_tuples(self):
        for _, function, row in each_call():
            for turned in (lambda value: value, as_lists):
                told = outcome(lambda: function(**{name: value if name == "thing" else turned(value) for name, value in row.items()}))
                if isinstance(told, list):
                    # Several results are a list, each made of tuples.
                    told = tuple(told)
                self.assertFalse(has_lists(told), (function.__name__, told))

    def test_results_are_new(self):
        for _, function, row in each_call():
            one, other = outcome(lambda: function(**row)), outcome(lambda: function(**row))
            if isinstance(one, list):
                self.assertIsNot(one, other, function.__name__)

    def test_results_can_be_passed_in_again(self):
        registry, wish = for_all(as_lists(SHELF), as_lists(WISH), ((), ("win",)))
        self.same(for_all(registry, wish, ((),)), (registry, wish))


class Things(Case):
    """Each function with a parameter `thing`."""

    def with_thing(self):
        for file_name, function, row in each_call():
            if "thing" in row:
                yield file_name, function, row

    def deep_things(self):
        for core in ((), [], 5, True, None, "a", ("on", "a"), ("leaf", ("wish", 0, "")), ("torn",), ((0, 0, 0, -9), None), ("has", APP, ONE)):
            yield nested(198, core)
            yield [nested(197, core)]
        mark, refusal, text = ("on", "a"), ("leaf", ("wish", 0, "")), "a"
        for _ in range(198):
            mark, text = ("not", mark), (text, text) if len(repr(text)) < 40 else (text,)
            refusal = ("join", APP, refusal, ("leaf", ("wish", 0, "")))
        yield from (mark, refusal, text, ("solved", mark, refusal), ("alike", mark[1], mark[1]), (mark, refusal))

    def test_things_of_all_shapes(self):
        seen = set()
        for file_name, function, row in self.with_thing():
            allowed = (True, False, None) if function.__name__ == "shows" else (True, False)
            if is_raised(outcome(lambda: function(**row))):
                continue
            seen.add(function.__name__)
            for thing in (*ODD_THINGS, *self.deep_things(), *list(bent(row["thing"]))[:40]):
                told = function(**{**row, "thing": thing})
                self.assertTrue(any(told is own for own in allowed), (function.__name__, thing))
                if isinstance(thing, list):
                    self.assertIn(told, (False, None), (function.__name__, thing))
        there = {function.__name__ for _, function, _ in self.with_thing()}
        self.assertEqual(seen, there)
        self.assertGreater(len(there), 45)

    def test_errors_come_whatever_thing_is(self):
        found = 0
        for file_name, function, row in self.with_thing():
            expected = outcome(lambda: function(**row))
            if is_raised(expected):
                found += 1
                for thing in (*ODD_THINGS, nested(200), BEST, REFUSAL):
                    self.same(outcome(lambda: function(**{**row, "thing": thing})), expected, function.__name__)
        self.assertGreater(found, 2)

    def test_lists_for_tuples_in_what_is_true(self):
        for _, function, row in self.with_thing():
            told = outcome(lambda: function(**row))
            if told is True and isinstance(row["thing"], tuple) and row["thing"]:
                self.assertIn(function(**{**row, "thing": as_lists(row["thing"])}), (False, None), function.__name__)
                self.assertIn(function(**{**row, "thing": list(row["thing"])}), (False, None), function.__name__)


class NoClock(unittest.TestCase):
    def test_nothing_from_outside(self):
        """No clock, no randomness, no files: nothing is drawn from but the package and itertools."""
        for path in PACKAGE.glob("*.py"):
            for node in ast.walk(ast.parse(path.read_text())):
                if isinstance(node, ast.ImportFrom):
                    self.assertTrue(node.module == "itertools" or node.module.startswith("newestfit."), path.name)
                self.assertNotIsInstance(node, ast.Import)
                if isinstance(node, ast.Name):
                    self.assertNotIn(node.id, ("open", "input", "hash", "id", "print", "globals"))

    def test_files_keep_nothing(self):
        """No function changes what stands at the top of a file."""
        for file_name in [path.stem for path in PACKAGE.glob("*.py") if path.stem != "__init__"]:
            module = importlib.import_module(f"newestfit.{file_name}")
            kept = {name: repr(value) for name, value in vars(module).items() if isinstance(value, (list, dict, tuple, int, str))
                    and not name.startswith("__")}
            for name, function, row in each_call():
                if name == file_name:
                    outcome(lambda: function(**row))
            self.assertEqual({name: repr(getattr(module, name)) for name in kept}, kept)


if __name__ == "__main__":
    unittest.main()
