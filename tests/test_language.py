"""The rules L1 to L28 of the language, as far as a test can see them in the files of the package."""

import ast
import builtins
import pathlib
import re
import unittest
import warnings

PACKAGE = pathlib.Path(__file__).resolve().parent.parent / "newestfit"

BUILTINS = set("""len range enumerate zip min max sum abs sorted reversed int str bool list tuple dict set isinstance ord
    repr any all divmod map iter next Exception ValueError TypeError KeyError IndexError LookupError RuntimeError
    NotImplementedError""".split())
METHODS = set("""append clear copy count endswith extend find get index insert isalnum isalpha isdigit islower isspace
    isupper items join keys ljust lower lstrip partition pop remove replace reverse rfind rjust rpartition rsplit rstrip
    setdefault split splitlines startswith strip update upper values zfill bit_length""".split())
LIBRARY = {"heapq": {"heappush", "heappop", "heapify"}, "math": {"gcd", "lcm", "isqrt", "comb", "perm", "factorial"},
           "itertools": {"product", "combinations", "permutations"}}
STATEMENTS = (ast.FunctionDef, ast.Assign, ast.AugAssign, ast.If, ast.While, ast.For, ast.Return, ast.Break,
              ast.Continue,
              ast.Pass, ast.Raise, ast.Assert, ast.Expr, ast.Try, ast.ClassDef, ast.ImportFrom, ast.Delete)
ONCE = {"zip", "enumerate", "reversed", "range", "map", "items", "keys", "values", "combinations"}
EATERS = {"list", "tuple", "dict", "sorted", "sum", "any", "all", "enumerate", "zip", "min", "max", "join"}
NEVER_NAMES = set("""register mro elements open input law version_info with_traceback add_note attrgetter breakpoint builtins
    compile copyright credits delattr dir eval exec exit gc globals help id importlib license locals methodcaller os quit
    super type vars sys""".split())
NEVER_WORDS = re.compile(r"\b(type|typing|typing_extensions|enum|Enum|IntEnum|StrEnum|Flag|IntFlag|Generic|Protocol|ABC|ABCMeta"
                         r"|namedtuple|NamedTuple|TypedDict|TYPE_CHECKING|abstractmethod)\b|dataclass|overload|contextmanager")
STDLIB_OR_BARRED = re.compile(r"law_.*|tests?|testing|test_.*|site|conftest|sitecustomize|usercustomize|heapq|math|itertools")


def files():
    return sorted(PACKAGE.glob("*.py"))


def parents_of(tree):
    return {child: node for node in ast.walk(tree) for child in ast.iter_child_nodes(node)}


def called_name(node):
    """The name of what a call calls, of a method its last name; None of all else."""
    if not isinstance(node, ast.Call):
        return None
    return getattr(node.func, "id", getattr(node.func, "attr", None))


def docstrings(tree):
    kinds = (ast.Module, ast.ClassDef, ast.FunctionDef)
    return [node.body[0].value for node in ast.walk(tree) if isinstance(node, kinds) and ast.get_docstring(node)]


def bound_names(tree):
    """All names that the file binds: variables, parameters, functions, classes, imports."""
    for node in ast.walk(tree):
        if isinstance(node, ast.Name) and not isinstance(node.ctx, ast.Load):
            yield node.id
        elif isinstance(node, (ast.FunctionDef, ast.ClassDef)):
            yield node.name
        elif isinstance(node, ast.arg):
            yield node.arg
        elif isinstance(node, ast.alias):
            yield node.name


def local_names(function):
    for node in ast.walk(function):
        if isinstance(node, ast.arg):
            yield node.arg
        elif isinstance(node, ast.Name) and not isinstance(node.ctx, ast.Load):
            yield node.id


def own_classes():
    """All classes of the package but those of errors.py."""
    return [node for path in files() if path.stem != "errors" for node in ast.walk(ast.parse(path.read_text()))
            if isinstance(node, ast.ClassDef)]


def methods_of(node):
    return [own.name for own in node.body if isinstance(own, ast.FunctionDef) and own.name != "__init__"]


def attributes_of(node):
    """The names of the attributes that a class stores."""
    return {own.attr for own in ast.walk(node) if isinstance(own, ast.Attribute) and isinstance(own.ctx, ast.Store)}


class NamesAsTexts(ast.NodeTransformer):
    """Puts a text in the place of each of these names."""

    def __init__(self, names):
        self.names = names

    def visit_Name(self, node):
        return ast.Constant(node.id) if node.id in self.names else node


class Language(unittest.TestCase):
    def each(self):
        for path in files():
            text = path.read_text()
            with self.subTest(file=path.name):
                yield path, text, ast.parse(text)

    def nodes(self, *kinds):
        for path, _, tree in self.each():
            for node in ast.walk(tree):
                if isinstance(node, kinds):
                    yield (path.name, getattr(node, "lineno", 0)), node

    def test_files(self):
        """L1, L14: only .py files with plain lower-case names, few of them, none with a barred name."""
        there = [path for path in PACKAGE.iterdir() if path.name != "__pycache__"]
        self.assertIn("__init__.py", [path.name for path in there])
        self.assertLessEqual(len(there), 100)
        for path in there:
            self.assertTrue(path.is_file() and path.suffix == ".py", path)
            self.assertRegex(path.stem, r"^([a-z][a-z0-9_]*|__init__)$")
            self.assertIsNone(STDLIB_OR_BARRED.fullmatch(path.stem), path)
            self.assertNotIn(path.stem, dir(builtins))
            self.assertNotIn(path.stem, NEVER_NAMES)

    def test_no_test_stands_in_the_package(self):
        self.assertEqual([path for path in PACKAGE.rglob("*test*")], [])

    def test_characters_and_sizes(self):
        """L10, L14: from the blank to the tilde, no tabs; lines, functions and files not too long."""
        for path, text, tree in self.each():
            self.assertTrue(all(sign == "\n" or " " <= sign <= "~" for sign in text))
            self.assertLessEqual(len(text.splitlines()), 399)
            self.assertLessEqual(max([len(line) for line in text.splitlines()]), 120)
            for node in ast.walk(tree):
                if isinstance(node, ast.FunctionDef):
                    self.assertLessEqual(node.end_lineno - node.lineno + 1, 40, node.name)

    def test_no_warnings(self):
        """L27: no line for which Python itself gives a warning."""
        for path, text, _ in self.each():
            with warnings.catch_warnings():
                warnings.simplefilter("error")
                compile(text, str(path), "exec")

    def test_imports(self):
        """L2, L16: at the top, by full names, of what the named file defines itself; none in a ring."""
        drawn = {}
        for path, _, tree in self.each():
            body = [node for node in tree.body if not isinstance(node, ast.Expr)]
            heads = [isinstance(node, ast.ImportFrom) for node in body]
            self.assertEqual(heads, sorted(heads, reverse=True))
            drawn[path.stem] = self.look_at_imports(tree)
        self.assertEqual(drawn["__init__"], set())
        while drawn:
            free = [name for name, sources in drawn.items() if not sources & set(drawn)]
            self.assertTrue(free, drawn)
            drawn = {name: sources for name, sources in drawn.items() if name not in free}

    def look_at_imports(self, tree):
        sources = set()
        for node in ast.walk(tree):
            self.assertNotIsInstance(node, ast.Import)
            if not isinstance(node, ast.ImportFrom):
                continue
            self.assertEqual(node.level, 0)
            self.assertTrue(all(alias.asname is None for alias in node.names))
            names = {alias.name for alias in node.names}
            if node.module in LIBRARY:
                self.assertLessEqual(names, LIBRARY[node.module])
                continue
            folder, _, source = node.module.partition(".")
            self.assertEqual(folder, "newestfit")
            sources.add(source)
            there = ast.parse((PACKAGE / f"{source}.py").read_text()).body
            own = {part.name for part in there if isinstance(part, (ast.FunctionDef, ast.ClassDef))}
            own.update([part.targets[0].id for part in there if isinstance(part, ast.Assign)])
            self.assertLessEqual(names, own, node.module)
        return sources

    def test_no_import_is_left_unused(self):
        for _, _, tree in self.each():
            read = {node.id for node in ast.walk(tree) if isinstance(node, ast.Name)}
            names = {alias.name for node in ast.walk(tree) if isinstance(node, ast.ImportFrom) for alias in node.names}
            self.assertLessEqual(names, read)

    def test_module_level(self):
        """L3, L15: docstring, imports, functions, classes, plain values; each name bound once."""
        for path, _, tree in self.each():
            names = [alias.name for node in tree.body if isinstance(node, ast.ImportFrom) for alias in node.names]
            for place, node in enumerate(tree.body):
                if isinstance(node, ast.Expr):
                    self.assertEqual(place, 0)
                    self.assertIsInstance(node.value.value, str)
                elif isinstance(node, ast.Assign):
                    self.assertEqual(len(node.targets), 1)
                    # A function defined above may stand in a table; here its name stands for it.
                    above = {own.name for own in tree.body[:place] if isinstance(own, ast.FunctionDef)}
                    table = NamesAsTexts(above).visit(ast.parse(ast.unparse(node.value), mode="eval"))
                    names.append(node.targets[0].id)
                    self.look_at_value(ast.literal_eval(table.body))
                else:
                    self.assertIsInstance(node, (ast.ImportFrom, ast.FunctionDef, ast.ClassDef))
                    names.extend([node.name] if not isinstance(node, ast.ImportFrom) else [])
            self.assertEqual(len(names), len(set(names)), names)

    def look_at_value(self, value, inside=False):
        self.assertNotIsInstance(value, (float, set))
        if inside:
            self.assertNotIsInstance(value, (list, dict))
        if isinstance(value, (tuple, list)):
            for part in value:
                self.look_at_value(part, True)
        if isinstance(value, dict):
            for part in [*value, *value.values()]:
                self.look_at_value(part, True)

    def test_tables_are_only_read(self):
        """L15: a list or dict at module level is read by an index, by in, by len or the like; never passed on."""
        for path, _, tree in self.each():
            tables = {node.targets[0].id for node in tree.body if isinstance(node, ast.Assign) and isinstance(node.value, (ast.Dict, ast.List))}
            parents = parents_of(tree)
            for node in ast.walk(tree):
                if isinstance(node, ast.Name) and node.id in tables and isinstance(node.ctx, ast.Load):
                    above = parents[node]
                    indexed = isinstance(above, ast.Subscript) and above.value is node and isinstance(above.ctx, ast.Load)
                    asked = isinstance(above, ast.Compare) and node in above.comparators and isinstance(above.ops[0], (ast.In, ast.NotIn))
                    self.assertTrue(indexed or asked or called_name(above) in ("len", "sorted", "list", "dict"), (node.id, node.lineno))

    def test_strings_in_f_strings(self):
        """L27: a string inside the braces stands on one line, without a backslash or a hash beside it."""
        for path, text, tree in self.each():
            for node in ast.walk(tree):
                if isinstance(node, ast.JoinedStr):
                    self.assertEqual(node.lineno, node.end_lineno)
                    inner = [own for part in node.values if isinstance(part, ast.FormattedValue) for own in ast.walk(part.value)
                             if isinstance(own, (ast.Constant, ast.JoinedStr)) and not isinstance(getattr(own, "value", ""), int)]
                    if inner:
                        line = text.splitlines()[node.lineno - 1]
                        self.assertFalse(set(line) & set("\\#"), line)
                        self.assertFalse([own for own in inner if isinstance(own, ast.JoinedStr)], line)

    def test_functions_and_classes(self):
        """L4, L5, L21, L28: no decorators, stars, annotations; only errors have a base class."""
        for place, node in self.nodes(ast.FunctionDef, ast.Lambda, ast.ClassDef):
            self.assertEqual(getattr(node, "decorator_list", []), [], place)
            if isinstance(node, ast.ClassDef):
                bases = [own.id for own in node.bases]
                self.assertIn(bases, [["ValueError"], ["LookupError"]] if place[0] == "errors.py" else [[]], place)
                continue
            rest = (node.args.vararg, node.args.kwarg, *node.args.kwonlyargs, *node.args.defaults)
            self.assertEqual([own for own in rest if own is not None], [], place)
            self.assertTrue(all(own.annotation is None for own in node.args.args), place)
            self.assertIsNone(getattr(node, "returns", None), place)
            if getattr(node, "name", "").startswith("__"):
                self.assertEqual(node.name, "__init__", place)

    def test_own_members(self):
        """L5, L18, L26: methods and attributes have names of their own; attributes are stored through self."""
        taken = {name for kind in (str, int, list, dict, set, bytes, tuple) for name in dir(kind)} | METHODS
        for node in own_classes():
            own, stored = methods_of(node), attributes_of(node)
            self.assertEqual(len(own), len(set(own)), node.name)
            self.assertEqual(set(own) & stored, set(), node.name)
            self.assertEqual((set(own) | stored) & (taken | NEVER_NAMES), set(), node.name)
            for part in node.body:
                self.assertIsInstance(part, (ast.FunctionDef, ast.Expr), node.name)
            functions = [part for part in node.body if isinstance(part, ast.FunctionDef)]
            self.assertTrue(all(part.args.args[0].arg == "self" for part in functions), node.name)
        for place, node in self.nodes(ast.Attribute):
            if not isinstance(node.ctx, ast.Load):
                self.assertEqual(getattr(node.value, "id", None), "self", place)
                self.assertIsInstance(node.ctx, ast.Store, place)

    def test_classes_are_only_called(self):
        """L18: a class is called, raised, caught, or stands in an import."""
        names = {node.name for node in own_classes()}
        for path, _, tree in self.each():
            parents = parents_of(tree)
            for node in ast.walk(tree):
                if isinstance(node, ast.Name) and node.id in names:
                    self.assertIs(getattr(parents[node], "func", None), node, node.lineno)

    def test_statements(self):
        """L6: only the statements of the language."""
        for place, node in self.nodes(ast.stmt):
            self.assertIsInstance(node, STATEMENTS, place)
            if isinstance(node, ast.Expr):
                self.assertIsInstance(node.value, (ast.Call, ast.Constant), place)

    def test_values(self):
        """L7, L20, L27: no floats, no bytes, no stars, no true division, is only with None, True, False."""
        for place, node in self.nodes(ast.expr, ast.operator):
            self.assertNotIsInstance(node, (ast.Div, ast.MatMult, ast.Await, ast.Starred, ast.NamedExpr, ast.Pow),
                                     place)
            if isinstance(node, ast.Constant):
                self.assertNotIsInstance(node.value, (float, complex, bytes), place)
                self.assertIsNot(node.value, Ellipsis, place)
            if isinstance(node, ast.Compare):
                for sign, right in zip(node.ops, node.comparators):
                    if isinstance(sign, (ast.Is, ast.IsNot)):
                        self.assertIsInstance(right, ast.Constant, place)
                        self.assertTrue(right.value is None or isinstance(right.value, bool), place)

    def test_strings(self):
        """L17, L27: no percent sign, no barred words and ends in strings."""
        for path, text, tree in self.each():
            kept = docstrings(tree)
            for node in ast.walk(tree):
                if isinstance(node, ast.Constant) and isinstance(node.value, str):
                    self.assertNotIn("%", node.value)
                    self.assertFalse(node.value.endswith(("._", ".__")), node.value)
                    self.assertFalse(node.value.startswith("__"), node.value)
                    if node not in kept:
                        self.assertIsNone(NEVER_WORDS.search(node.value), node.value)
            self.assertEqual(re.findall(r"\\[^nt\\'\"]", text), [])

    def test_names(self):
        """L8, L12, L15, L17: plain names, none of a builtin, none of an import or a class again."""
        for path, text, tree in self.each():
            for name in bound_names(tree):
                self.assertRegex(name, r"^(_|_?[A-Za-z][A-Za-z0-9_]*|__init__)$")
                self.assertNotIn(name, dir(builtins))
                self.assertNotIn(name, NEVER_NAMES)
                self.assertNotRegex(name, r"^(_wall|_pe_|_dcw_|_enum_|_cm_|_twin_re_|_lay_|_law_|_stub_|_sre|_WallAttr|_cold"
                                          r"|_tuplegetter|_outside|_record|_written_out|_member_names)")
            self.assertNotIn("_wall", text)
            taken = {alias.name for node in ast.walk(tree) if isinstance(node, ast.ImportFrom) for alias in node.names}
            taken.update([node.name for node in ast.walk(tree) if isinstance(node, ast.ClassDef)])
            own = {node.name for node in tree.body if isinstance(node, ast.FunctionDef)}
            for node in ast.walk(tree):
                if isinstance(node, ast.FunctionDef):
                    self.assertEqual(set(local_names(node)) & (taken | own), set(), node.name)

    def test_underscore_is_never_read(self):
        """L12: _ alone is assigned and never read."""
        for place, node in self.nodes(ast.Name):
            self.assertFalse(node.id == "_" and isinstance(node.ctx, ast.Load), place)

    def test_builtins_and_methods(self):
        """L8, L9, L22, L25: only these builtins and methods, with the keywords that they may have."""
        own = {name for node in own_classes() for name in [*methods_of(node), *attributes_of(node)]}
        for path, _, tree in self.each():
            bound = set(bound_names(tree))
            for node in ast.walk(tree):
                if isinstance(node, ast.Name) and node.id not in bound:
                    self.assertIn(node.id, BUILTINS, node.lineno)
                if isinstance(node, ast.Attribute) and isinstance(node.ctx, ast.Load):
                    self.assertIn(node.attr, METHODS | own, node.lineno)
                if isinstance(node, ast.Call) and called_name(node) in BUILTINS | METHODS:
                    self.look_at_call(node)
            self.look_at_loads(tree, bound)

    def look_at_call(self, node):
        allowed = {"sorted": {"key", "reverse"}, "min": {"key", "default"}, "max": {"key", "default"}, "sum": {"start"},
                   "enumerate": {"start"}, "zip": {"strict"}}
        words = {own.arg for own in node.keywords}
        self.assertLessEqual(words, allowed.get(called_name(node), set()), node.lineno)

    def look_at_loads(self, tree, bound):
        """A builtin is called where it stands, or named in isinstance, raise, a class's bases, a map."""
        parents = parents_of(tree)
        for node in ast.walk(tree):
            if isinstance(node, ast.Name) and node.id in BUILTINS and node.id not in bound:
                above = parents[node]
                called = isinstance(above, ast.Call) and (above.func is node or called_name(above) in ("isinstance",
                                                                                                       "map"))
                listed = isinstance(above, ast.Tuple) and called_name(parents[above]) == "isinstance"
                key = isinstance(above, ast.keyword) and above.arg == "key" and node.id in ("len", "int", "str", "abs", "sum",
                                                                                            "min", "max", "tuple")
                self.assertTrue(called or listed or key or isinstance(above, ast.ClassDef), (node.id, node.lineno))

    def test_iterated_at_once(self):
        """L2, L23: zip, enumerate, map, d.items() and their kin are iterated where they stand."""
        for path, _, tree in self.each():
            parents = parents_of(tree)
            for node in ast.walk(tree):
                if called_name(node) in ONCE:
                    above = parents[node]
                    looped = isinstance(above, (ast.For, ast.comprehension)) and above.iter is node
                    eaten = called_name(above) in EATERS | {"combinations"}
                    spread = called_name(node) == "map" and isinstance(above, ast.Assign)
                    turned = called_name(node) == "range" and called_name(above) == "reversed"
                    self.assertTrue(looped or eaten or spread or turned, node.lineno)
                if isinstance(node, ast.GeneratorExp):
                    self.assertIn(called_name(parents[node]), EATERS, node.lineno)
                    self.assertEqual(len(parents[node].args), 1, node.lineno)

    def test_sets(self):
        """L24: a set stands in sorted or len without keywords, or behind in; none is stored or iterated."""
        for path, _, tree in self.each():
            parents = parents_of(tree)
            for node in ast.walk(tree):
                if isinstance(node, (ast.Set, ast.SetComp)) or called_name(node) == "set":
                    above = parents[node]
                    self.assertIn(called_name(above), ("sorted", "len"), node.lineno)
                    self.assertEqual(above.keywords, [], node.lineno)

    def test_errors(self):
        """L19: an error is made where it is raised; what is caught is an own error."""
        own = [node.name for node in ast.parse((PACKAGE / "errors.py").read_text()).body if isinstance(node,
                                                                                                       ast.ClassDef)]
        for place, node in self.nodes(ast.Raise, ast.ExceptHandler):
            if isinstance(node, ast.Raise):
                self.assertIn(called_name(node.exc), own, place)
                self.assertIsNone(node.cause, place)
            else:
                self.assertIn(node.type.id, own, place)

    def test_loops_do_not_change_what_they_go_over(self):
        """L23: no append, pop or the like, in a loop's rows, on the name that it goes over."""
        changing = {"append", "clear", "extend", "insert", "pop", "remove", "reverse", "setdefault", "update"}
        for place, node in self.nodes(ast.For):
            gone_over = {own.id for own in ast.walk(node.iter) if isinstance(own, ast.Name)}
            for own in ast.walk(ast.Module(body=node.body, type_ignores=[])):
                if isinstance(own, ast.Call) and isinstance(own.func, ast.Attribute) and own.func.attr in changing:
                    self.assertNotIn(getattr(own.func.value, "id", None), gone_over, place)


if __name__ == "__main__":
    unittest.main()
