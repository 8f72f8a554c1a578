"""The form of the package: the rules of the Python subset that can be seen by reading its files."""

import ast
import pathlib
import re
import unittest

PACKAGE = pathlib.Path(__file__).resolve().parent.parent / "greatrows"
BUILTINS = {
    "len", "range", "enumerate", "zip", "min", "max", "sum", "abs", "sorted", "reversed", "int", "str", "bool", "list",
    "tuple", "dict", "set", "isinstance", "ord", "repr", "any", "all", "divmod", "map", "iter", "next", "super",
    "Exception", "ValueError", "TypeError", "KeyError", "IndexError", "LookupError", "ZeroDivisionError",
    "ArithmeticError", "OverflowError", "RuntimeError", "NotImplementedError", "AttributeError", "StopIteration",
    "NotImplemented", "property", "staticmethod", "classmethod",
}
ALL_BUILTINS = set(dir(__builtins__)) if not isinstance(__builtins__, dict) else set(__builtins__)
DOUBLE = {
    "__init__", "__eq__", "__repr__", "__str__", "__len__", "__enter__", "__exit__", "__call__", "__iter__",
}
METHODS = set(
    "append clear copy count endswith extend find get index insert isalnum isalpha isdigit islower isspace isupper items "
    "join keys ljust lower lstrip partition pop remove replace reverse rfind rjust rpartition rsplit rstrip setdefault "
    "split splitlines startswith strip update upper values zfill bit_length title capitalize swapcase casefold center "
    "expandtabs removeprefix removesuffix rindex isascii isdecimal isnumeric istitle isidentifier isprintable "
    "add discard sort".split())
LIBRARY = {
    "heapq": {"heappush", "heappop", "heapify", "heapreplace", "heappushpop"},
    "math": {"gcd", "lcm", "isqrt", "comb", "perm", "factorial"},
    "itertools": {"product", "combinations", "permutations"},
}
NEVER = {"register", "mro", "elements", "open", "input", "law", "version_info", "with_traceback", "add_note"}
# Rule L12: what no name begins with, and what none is, also with figures or underscores behind it.
BEGINNINGS = ("_wall", "_pe_", "_dcw_", "_enum_", "_cm_", "_twin_re_", "_lay_", "_law_", "_stub_", "_sre", "_WallAttr")
BARRED_NAMES = ("_cold", "_tuplegetter", "_outside", "_record", "_written_out", "_member_names")
BARRED_STATEMENTS = (
    ast.Global, ast.AsyncFunctionDef, ast.AsyncFor, ast.AsyncWith, ast.Await, ast.Import, ast.TryStar, ast.AnnAssign,
)


def files():
    return sorted(PACKAGE.rglob("*"))


def trees():
    return [(path, ast.parse(path.read_text())) for path in files() if path.suffix == ".py"]


def own_names():
    names = set()
    for _, tree in trees():
        for node in ast.walk(tree):
            if isinstance(node, (ast.FunctionDef, ast.ClassDef)):
                names.add(node.name)
    return names


def docstrings(tree):
    found = []
    for node in ast.walk(tree):
        if isinstance(node, (ast.Module, ast.ClassDef, ast.FunctionDef)) and ast.get_docstring(node) is not None:
            found.append(node.body[0].value)
    return found


def names_in(tree):
    """Tuples (name, whether it is that of an attribute or a method) of all names in a file, those of `__slots__` too."""
    found = []
    methods = [node for made in ast.walk(tree) if isinstance(made, ast.ClassDef) for node in made.body]
    for node in ast.walk(tree):
        if isinstance(node, ast.FunctionDef):
            found.append((node.name, node in methods))
        elif isinstance(node, ast.Attribute):
            found.append((node.attr, True))
        elif isinstance(node, ast.ImportFrom):
            found.extend((part, False) for part in (node.module or "").split("."))
        elif isinstance(node, ast.Assign) and ast.unparse(node.targets[0]) == "__slots__":
            found.extend((each.value, True) for each in ast.walk(node.value) if isinstance(each, ast.Constant))
        told = [getattr(node, field, None) for field in ("id", "arg", "asname", "rest")]
        if isinstance(node, (ast.ClassDef, ast.alias, ast.ExceptHandler, ast.MatchAs, ast.MatchStar)):
            told.append(node.name)
        if isinstance(node, (ast.Global, ast.Nonlocal)):
            told.extend(node.names)
        found.extend((name, False) for name in told if isinstance(name, str))
    return found


def is_barred(name, is_of_object):
    """Whether rule L12 bars a name; but for one beginning, those of attributes and methods like all others."""
    beginnings = [each for each in BEGINNINGS if each != "_wall" or not is_of_object]
    if name == "_wall" or name.startswith(tuple(beginnings)):
        return True
    return name.rstrip("0123456789_") in BARRED_NAMES


def barred_in(text):
    """The barred names of a file, and the words that stand in none."""
    found = [name for name, is_of_object in names_in(ast.parse(text)) if is_barred(name, is_of_object)]
    return found + re.findall(r"\b_wall\b|_WallAttr", text)


class Names(unittest.TestCase):
    def test_no_file_has_a_barred_name(self):
        for path in files():
            if path.suffix == ".py":
                self.assertEqual(barred_in(path.read_text()), [], path.name)
                self.assertFalse(is_barred(path.stem, False), path.name)

    def test_names_are_plain(self):
        for path, tree in trees():
            for name, _ in names_in(tree):
                if name not in DOUBLE:
                    self.assertRegex(name, r"\A(_?[A-Za-z][A-Za-z0-9_]*|_)\Z", path.name)

    def test_each_barred_name_is_found_wherever_a_name_stands(self):
        forms = (
            "{} = 1", "def {}():\n    pass", "class C:\n    def {}(self):\n        pass", "class {}:\n    pass",
            "def f(x):\n    x.{} = 1", "def f(x):\n    return x.{}", "def f(x):\n    x.{}()", "def f({}):\n    pass",
            "def f(*{}):\n    pass", "def f(**{}):\n    pass", "def f(*, {}=1):\n    pass", "def f():\n    g({}=1)",
            "def f():\n    for {} in []:\n        pass", "def f():\n    return [1 for {} in []]", "from a.b import {}",
            "from a.{} import b", "from a import b as {}", "def f():\n    return lambda {}: 1",
            "def f():\n    if ({} := 1):\n        pass",
            "def f():\n    try:\n        pass\n    except E as {}:\n        pass",
            "def f(x):\n    match x:\n        case {}:\n            pass",
            "def f(x):\n    match x:\n        case [*{}]:\n            pass",
            "def f():\n    def g():\n        nonlocal {}",
            "class C:\n    __slots__ = ('{}',)", "class C:\n    {} = 1",
        )
        names = [each + "x" for each in BEGINNINGS] + [each for each in BEGINNINGS if each != "_wall"]
        names.extend(each + more for each in BARRED_NAMES for more in ("", "1", "_", "_2", "__"))
        for form in forms:
            for name in names:
                text = form.format(name)
                is_free = name == "_wallx" and any(each in form for each in ("x.{}", "C:\n    def", "__slots__"))
                self.assertEqual(name in barred_in(text), not is_free, text)

    def test_names_that_are_free_and_words_that_stand_nowhere(self):
        for name in ("lay", "_lays", "_kept", "_laws", "_pets", "_enumerated", "_colder", "_records", "_outsider",
                "_walks"):
            self.assertEqual(barred_in(f"def {name}():\n    pass"), [], name)
        for text in ("# a _wall", "'_wall'", "x = '_WallAttr'", "# _WallAttrs"):
            self.assertEqual(len(barred_in(text)), 1, text)
        self.assertEqual(barred_in("def f(x):\n    return x._walls"), [])


class Form(unittest.TestCase):
    def test_the_folder_has_nothing_else_than_its_files(self):
        for path in files():
            if "__pycache__" not in path.parts:
                self.assertRegex(path.name, r"^[a-z0-9_]+\.py$")
        self.assertTrue((PACKAGE / "__init__.py").is_file())

    def test_signs_and_sizes(self):
        for path, tree in trees():
            text = path.read_text()
            self.assertRegex(text, r"\A[ -~\n]*\Z", path.name)
            lines = text.split("\n")
            self.assertLess(len(lines), 400, path.name)
            self.assertLessEqual(max(len(line) for line in lines), 120, path.name)
            for node in ast.walk(tree):
                if isinstance(node, ast.FunctionDef):
                    self.assertLessEqual(node.end_lineno - node.lineno + 1, 40, node.name)

    def test_what_a_file_has(self):
        for path, tree in trees():
            names = []
            for node in tree.body:
                self.assertIsInstance(
                    node, (ast.Expr, ast.ImportFrom, ast.FunctionDef, ast.ClassDef, ast.Assign), path.name)
                if isinstance(node, ast.Expr):
                    self.assertIs(node, tree.body[0], path.name)
                if isinstance(node, ast.Assign):
                    self.assertEqual([target.__class__ for target in node.targets], [ast.Name], path.name)
                    names.append(node.targets[0].id)
                    self.assertEqual([each for each in ast.walk(node) if isinstance(each, ast.Call)], [], path.name)
                if isinstance(node, (ast.FunctionDef, ast.ClassDef)):
                    names.append(node.name)
                if isinstance(node, ast.ImportFrom):
                    names.extend(each.name for each in node.names)
            self.assertEqual(len(names), len(set(names)), path.name)
            self.assertEqual(set(names) & ALL_BUILTINS, set(), path.name)

    def test_imports(self):
        for path, tree in trees():
            for node in ast.walk(tree):
                if not isinstance(node, ast.ImportFrom):
                    continue
                self.assertEqual(node.level, 0)
                self.assertEqual([each.asname for each in node.names], [None for _ in node.names])
                names = {each.name for each in node.names}
                if node.module in LIBRARY:
                    self.assertLessEqual(names, LIBRARY[node.module])
                    continue
                package, file = node.module.split(".")
                self.assertEqual(package, "greatrows")
                body = ast.parse((PACKAGE / (file + ".py")).read_text()).body
                defined = {each.name for each in body if isinstance(each, (ast.FunctionDef, ast.ClassDef))}
                defined |= {each.targets[0].id for each in body if isinstance(each, ast.Assign)}
                self.assertLessEqual(names, defined, path.name)

    def test_no_two_files_import_each_other(self):
        above = {}
        for path, tree in trees():
            above[path.stem] = {node.module.split(".")[-1] for node in tree.body if isinstance(node, ast.ImportFrom)}
        for name in above:
            reached = set()
            ahead = list(above[name])
            while ahead:
                file = ahead.pop()
                if file not in reached:
                    reached.add(file)
                    ahead.extend(above.get(file, ()))
            self.assertNotIn(name, reached)

    def test_statements_and_values(self):
        for path, tree in trees():
            for node in ast.walk(tree):
                self.assertNotIsInstance(node, BARRED_STATEMENTS, path.name)
                self.assertNotIsInstance(node, (ast.Div, ast.MatMult), path.name)
                if isinstance(node, ast.Constant):
                    self.assertIsInstance(node.value, (int, str, bytes, bool, type(None)), path.name)
                if isinstance(node, ast.BinOp) and isinstance(node.op, ast.Pow):
                    self.assertIsInstance(node.right, ast.Constant, path.name)
                if isinstance(node, ast.Compare) and isinstance(node.ops[0], (ast.Is, ast.IsNot)):
                    self.assertIn(ast.unparse(node.comparators[0]), ("None", "True", "False", "self"))
                if isinstance(node, (ast.FunctionDef, ast.ClassDef)):
                    told = [ast.unparse(each) for each in node.decorator_list]
                    self.assertLessEqual(set(told), {"property", "staticmethod", "classmethod"}, path.name)
                if isinstance(node, (ast.Name, ast.arg, ast.Attribute, ast.FunctionDef)):
                    self.check_name(path, node)

    def check_name(self, path, node):
        told = {ast.Name: "id", ast.arg: "arg", ast.Attribute: "attr", ast.FunctionDef: "name"}[node.__class__]
        name = getattr(node, told)
        self.assertNotIn(name, NEVER, path.name)
        if name.startswith("__"):
            self.assertIn(name, DOUBLE, path.name)
        if isinstance(node, ast.arg) or (isinstance(node, ast.Name) and isinstance(node.ctx, ast.Store)):
            self.assertNotIn(name, ALL_BUILTINS, path.name)

    def test_builtins_and_methods(self):
        own = own_names()
        for path, tree in trees():
            for node in ast.walk(tree):
                if isinstance(node, ast.Name) and node.id in ALL_BUILTINS and isinstance(node.ctx, ast.Load):
                    self.assertIn(node.id, BUILTINS, path.name)
                if isinstance(node, ast.Call) and isinstance(node.func, ast.Attribute):
                    self.assertIn(node.func.attr, METHODS | own | DOUBLE, path.name)

    def test_lists_beside_any_and_the_like(self):
        for path, tree in trees():
            for node in ast.walk(tree):
                if isinstance(node, ast.Call) and isinstance(node.func, ast.Name):
                    if node.func.id in ("any", "all", "min", "max", "sum", "sorted"):
                        for each in node.args:
                            self.assertNotIsInstance(each, ast.GeneratorExp, path.name)

    def test_words_of_strings(self):
        for path, tree in trees():
            shown = docstrings(tree)
            for node in ast.walk(tree):
                if not isinstance(node, ast.Constant) or not isinstance(node.value, str):
                    continue
                self.assertNotIn("%", node.value, path.name)
                if node not in shown:
                    self.assertIsNone(re.search(
                        r"\b(typing|enum|Enum|Generic|Protocol|ABC|namedtuple)\b|dataclass|overload|contextmanager|^__",
                        node.value), path.name)

    def test_lists_and_dicts_of_a_file_are_read_only(self):
        reading = (ast.Subscript, ast.Compare, ast.Attribute, ast.For, ast.comprehension)
        for path, tree in trees():
            kept = {node.targets[0].id for node in tree.body
                    if isinstance(node, ast.Assign) and isinstance(node.value, (ast.List, ast.Dict))}
            for node in ast.walk(tree):
                for child in ast.iter_child_nodes(node):
                    if isinstance(child, ast.Name) and child.id in kept and isinstance(child.ctx, ast.Load):
                        self.assertIsInstance(node, reading, f"{path.name}: {ast.unparse(node)}")
                if isinstance(node, ast.Subscript) and isinstance(node.value, ast.Name) and node.value.id in kept:
                    self.assertIsInstance(node.ctx, ast.Load, path.name)

    def test_methods_and_attributes_have_unlike_names(self):
        for path, tree in trees():
            for made in ast.walk(tree):
                if not isinstance(made, ast.ClassDef):
                    continue
                methods = [node.name for node in made.body if isinstance(node, ast.FunctionDef)]
                self.assertEqual(len(methods), len(set(methods)), made.name)
                stored = {node.attr for node in ast.walk(made)
                          if isinstance(node, ast.Attribute) and isinstance(node.ctx, ast.Store)
                          and ast.unparse(node.value) == "self"}
                self.assertEqual(stored & set(methods), set(), made.name)
                self.assertEqual(stored & (METHODS - {"copy", "count", "index", "title", "find", "get", "join", "lower",
                                                      "upper", "split", "strip", "add"}), set(), made.name)


if __name__ == "__main__":
    unittest.main()
