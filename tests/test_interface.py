"""[25]: each name in its file, with its parameters; the errors; which file draws from which."""

import ast
import importlib
import inspect
import pathlib
import unittest

from interface import FUNCTIONS

PACKAGE = pathlib.Path(__file__).resolve().parent.parent / "newestfit"

ERRORS = {
    "NoName": (LookupError, ("name",)), "NoRelease": (LookupError, ("version",)),
    "NoNeed": (LookupError, ("number",)), "NoWord": (LookupError, ("word",)),
    "NothingDone": (LookupError, ()), "Unfit": (ValueError, ()), "NoPaper": (ValueError, ()),
    "TooMany": (ValueError, ()), "BadText": (ValueError, ("place",)), "BadLine": (ValueError, ("number",)),
}


# Files as they may draw from one another: each from those ahead of it alone. shapes, graphs, releases, grids and
# boards are private.
DRAWING = ("errors", "shapes", "graphs", "versions", "ranges", "rangetexts", "marks", "releases", "registry", "items", "locks",
           "lines", "grids", "refusals", "boards", "solve", "best", "updates", "alllocks", "least", "plans", "store",
           "platforms", "reasons", "judge", "texts", "shell")


def defined_in(file_name, kind):
    tree = ast.parse((PACKAGE / f"{file_name}.py").read_text())
    return [node.name for node in tree.body if isinstance(node, kind)]


class Interface(unittest.TestCase):
    def test_functions_stand_in_their_files_with_their_parameters(self):
        for file_name, told in FUNCTIONS.items():
            module = importlib.import_module(f"newestfit.{file_name}")
            there = defined_in(file_name, ast.FunctionDef)
            for word in told.split():
                name, _, parameters = word.rstrip(")").partition("(")
                self.assertIn(name, there, file_name)
                shown = inspect.signature(getattr(module, name)).parameters
                self.assertEqual(",".join(shown), parameters, name)
                for parameter in shown.values():
                    self.assertEqual(parameter.kind, parameter.POSITIONAL_OR_KEYWORD, name)
                    self.assertIs(parameter.default, parameter.empty, name)

    def test_errors_are_direct_subclasses_and_keep_their_values(self):
        module = importlib.import_module("newestfit.errors")
        self.assertEqual(sorted(defined_in("errors", ast.ClassDef)), sorted(ERRORS))
        for name, (base, values) in ERRORS.items():
            error = getattr(module, name)
            self.assertEqual(error.__bases__, (base,), name)
            given = [f"value {value}" for value in values]
            self.assertEqual(vars(error(*given)), dict(zip(values, given)), name)
            self.assertEqual(vars(error(**dict(zip(values, given)))), dict(zip(values, given)), name)
            with self.assertRaises(TypeError, msg=name):
                error(*given, **{"more": 1})

    def test_an_error_keeps_a_tuple_for_a_list(self):
        error = importlib.import_module("newestfit.errors").NoRelease([1, 2, 3, 0])
        self.assertEqual(error.version, (1, 2, 3, 0))
        self.assertIs(type(error.version), tuple)

    def test_files_draw_only_from_those_ahead(self):
        for file_name in DRAWING:
            tree = ast.parse((PACKAGE / f"{file_name}.py").read_text())
            for node in ast.walk(tree):
                if isinstance(node, ast.ImportFrom) and node.module.startswith("newestfit."):
                    source = node.module.partition(".")[2]
                    self.assertLess(DRAWING.index(source), DRAWING.index(file_name), (file_name, source))

    def test_no_file_is_left_out_of_that_order(self):
        there = {path.stem for path in PACKAGE.glob("*.py")} - {"__init__"}
        self.assertEqual(there, set(DRAWING))


if __name__ == "__main__":
    unittest.main()
