"""The form of the package, further: how calls, loops, refusals and names stand, by the rules of the Python subset."""

import ast
import builtins
import unittest

from test_language import trees

WALKS = ("zip", "enumerate", "reversed", "range")
VIEWS = ("items", "keys", "values")
TAKERS = {"list", "tuple", "dict", "sorted", "sum", "any", "all", "enumerate", "zip", "min", "max"}
KEYWORDS = {"sorted": {"key", "reverse"}, "min": {"key", "default"}, "max": {"key", "default"}, "sum": {"start"},
            "enumerate": {"start"}, "zip": {"strict"}}
# What strings, numbers, lists, dicts, sets and bytes have as a method or an attribute, and own ones may be called.
FREE_METHODS = set(
    "append clear copy count endswith extend find get index insert isalnum isalpha isdigit islower isspace isupper items join "
    "keys ljust lower lstrip partition pop remove replace reverse rfind rjust rpartition rsplit rstrip setdefault split "
    "splitlines startswith strip update upper values zfill add discard".split())
FREE_ATTRIBUTES = {"count", "index", "title", "find", "get", "join", "lower", "upper", "split", "strip", "copy", "add"}
STATEMENTS = (
    ast.Assign, ast.AugAssign, ast.If, ast.While, ast.For, ast.Return, ast.Break, ast.Continue, ast.Pass, ast.Raise,
    ast.Assert,
    ast.Delete, ast.Nonlocal, ast.Match, ast.With, ast.Try, ast.Expr, ast.FunctionDef, ast.ClassDef, ast.ImportFrom,
)


def taken_names():
    return {name for kind in (str, int, list, dict, set, bytes) for name in dir(kind)}


def parents_of(tree):
    return {child: node for node in ast.walk(tree) for child in ast.iter_child_nodes(node)}


def called(node):
    """The name of what is called, where that is a name, or None."""
    return node.func.id if isinstance(node, ast.Call) and isinstance(node.func, ast.Name) else None


def classes():
    return {node.name: node for _, tree in trees() for node in tree.body if isinstance(node, ast.ClassDef)}


def errors():
    """The names of own error classes."""
    found = {"ValueError", "KeyError", "LookupError", "Exception"}
    own = classes()
    while True:
        more = {name for name, node in own.items() if {ast.unparse(base) for base in node.bases} & found} - found
        if not more:
            return found & set(own)
        found |= more


class Form(unittest.TestCase):
    def each(self, *kinds):
        """Tuples (where it stands, node, the parents of all nodes) of all nodes of these kinds."""
        for path, tree in trees():
            parents = parents_of(tree)
            for node in ast.walk(tree):
                if isinstance(node, kinds):
                    yield f"{path.name}:{getattr(node, 'lineno', 0)}", node, parents

    def test_statements(self):
        for where, node, _ in self.each(ast.stmt):
            self.assertIsInstance(node, STATEMENTS, where)
            if isinstance(node, ast.Expr):
                self.assertIsInstance(node.value, (ast.Call, ast.Constant, ast.Yield, ast.YieldFrom), where)

    def test_default_values_are_plain(self):
        for where, node, _ in self.each(ast.arguments):
            for value in [*node.defaults, *[each for each in node.kw_defaults if each is not None]]:
                self.assertIsInstance(value, (ast.Constant, ast.Name), where)

    def test_stars(self):
        for where, node, parents in self.each(ast.Starred):
            above = parents[node]
            self.assertIsInstance(above, (ast.List, ast.Tuple, ast.Call), where)
            self.assertNotIsInstance(parents[above], ast.Subscript, where)
            if isinstance(above, ast.Call):
                self.assertIsInstance(node.value, (ast.Name, ast.Attribute), where)

    def test_there_is_no_generator_and_no_set_but_within_sorted(self):
        for where, node, parents in self.each(ast.GeneratorExp, ast.Set, ast.SetComp, ast.Yield, ast.YieldFrom,
                ast.Call):
            if isinstance(node, ast.Call):
                if called(node) in ("set", "frozenset"):
                    self.assertEqual(called(parents[node]), "sorted", where)
            else:
                self.fail(where)

    def test_builtins_are_called_and_take_few_keywords(self):
        names = set(dir(builtins)) - set(dir(ast)) | {"map"}
        for where, node, parents in self.each(ast.Name):
            is_error = isinstance(getattr(builtins, node.id, None), type) and issubclass(getattr(builtins, node.id),
                Exception)
            if node.id in names and not is_error and isinstance(node.ctx, ast.Load):
                above = parents[node]
                in_isinstance = isinstance(above, ast.Tuple) or called(above) == "isinstance"
                self.assertTrue(in_isinstance or (isinstance(above, ast.Call) and above.func is node),
                    f"{where} {node.id}")
        for where, node, _ in self.each(ast.Call):
            if called(node) in dir(builtins):
                self.assertLessEqual({each.arg for each in node.keywords}, KEYWORDS.get(called(node), set()), where)

    def test_what_is_walked_over_is_walked_over_at_once(self):
        for where, node, parents in self.each(ast.Call):
            is_view = isinstance(node.func, ast.Attribute) and node.func.attr in VIEWS
            if not is_view and called(node) not in WALKS:
                continue
            above = parents[node]
            if isinstance(above, (ast.For, ast.comprehension)):
                self.assertIs(above.iter, node, where)
            else:
                self.assertIn(called(above), TAKERS, where)
                self.assertIs(above.args[0], node, where)

    def test_no_loop_changes_what_it_goes_over(self):
        changing = {"append", "extend", "pop", "clear", "insert", "remove", "reverse", "setdefault", "update", "sort"}
        for where, node, _ in self.each(ast.For):
            over = {ast.unparse(each) for each in ast.walk(node.iter) if isinstance(each, (ast.Name, ast.Attribute))}
            for part in [each for row in node.body for each in ast.walk(row)]:
                if isinstance(part, ast.Call) and isinstance(part.func, ast.Attribute) and part.func.attr in changing:
                    self.assertNotIn(ast.unparse(part.func.value), over, where)
                if isinstance(part, ast.Subscript) and isinstance(part.ctx, (ast.Store, ast.Del)):
                    self.assertNotIn(ast.unparse(part.value), over, where)

    def test_refusals_are_created_where_they_are_raised(self):
        own = errors()
        for where, node, parents in self.each(ast.Raise):
            if node.exc is None:
                above = parents[node]
                while not isinstance(above, ast.ExceptHandler):
                    above = parents[above]
                continue
            self.assertIn(called(node.exc), own, where)
            self.assertIs(node.cause, None, where)

    def test_what_is_caught_is_an_own_error_by_its_name(self):
        own = errors()
        for where, node, _ in self.each(ast.ExceptHandler):
            told = node.type.elts if isinstance(node.type, ast.Tuple) else [node.type]
            self.assertLessEqual({ast.unparse(each) for each in told}, own, where)

    def test_the_name_of_a_caught_error_means_nothing_else(self):
        for where, node, _ in self.each(ast.FunctionDef):
            caught = [each.name for each in ast.walk(node) if isinstance(each, ast.ExceptHandler) and each.name]
            others = [each.arg for each in ast.walk(node) if isinstance(each, ast.arg)]
            others += [each.id for each in ast.walk(node) if isinstance(each, ast.Name) and isinstance(each.ctx,
                ast.Store)]
            self.assertEqual(len(set(caught)), len(caught), where)
            self.assertEqual(set(caught) & set(others), set(), where)

    def test_classes_are_called_or_looked_at_alone(self):
        own = classes()
        for where, node, parents in self.each(ast.Name):
            if node.id in own and isinstance(node.ctx, ast.Load):
                above = parents[node]
                if isinstance(above, ast.Tuple):
                    above = parents[above]
                self.assertIsInstance(above, (ast.Call, ast.ClassDef, ast.ExceptHandler), where)
                if isinstance(above, ast.Call) and above.func is not node:
                    self.assertEqual(called(above), "isinstance", where)

    def test_no_local_name_is_that_of_a_class_or_an_import(self):
        for path, tree in trees():
            barred = {each.name for node in tree.body if isinstance(node, ast.ImportFrom) for each in node.names}
            barred |= {node.name for node in tree.body if isinstance(node, ast.ClassDef)}
            for node in ast.walk(tree):
                if isinstance(node, ast.arg):
                    self.assertNotIn(node.arg, barred, path.name)
                if isinstance(node, ast.Name) and isinstance(node.ctx, ast.Store):
                    self.assertNotIn(node.id, barred, path.name)

    def test_own_methods_and_attributes_are_called_as_they_may(self):
        taken = taken_names()
        methods = set()
        stored = set()
        for where, node, _ in self.each(ast.ClassDef):
            for part in node.body:
                if isinstance(part, ast.FunctionDef) and not part.name.startswith("__"):
                    methods.add(part.name)
                    self.assertFalse(part.name in taken - FREE_METHODS, f"{where} {part.name}")
        for where, node, _ in self.each(ast.Attribute):
            if isinstance(node.ctx, ast.Store):
                stored.add(node.attr)
                self.assertFalse(node.attr in taken - FREE_ATTRIBUTES, f"{where} {node.attr}")
        for where, node, parents in self.each(ast.Attribute):
            if isinstance(node.ctx, ast.Load) and not (isinstance(parents[node],
                    ast.Call) and parents[node].func is node):
                # What isn't called is no method, but an attribute that some class stores.
                self.assertIn(node.attr, stored, f"{where} {node.attr}")
        self.assertEqual(methods & stored, set())

    def test_each_own_method_that_is_called_without_one_has_no_star(self):
        for where, node, parents in self.each(ast.Call):
            if called(node) == "super":
                self.assertEqual(node.args, [], where)
                self.assertIsInstance(parents[node], ast.Attribute, where)

    def test_patterns(self):
        plain = (ast.MatchValue, ast.MatchOr, ast.MatchAs)
        for where, node, _ in self.each(ast.pattern):
            self.assertIsInstance(node, plain, where)
            if isinstance(node, ast.MatchAs):
                self.assertIs(node.name, None, where)

    def test_formats(self):
        for where, node, _ in self.each(ast.FormattedValue):
            self.assertEqual(node.conversion, -1, where)
            if node.format_spec is not None:
                self.assertEqual(ast.unparse(node.format_spec), "f'x'", where)

    def test_tables_of_functions_are_read_into_a_name_first(self):
        for where, node, _ in self.each(ast.Call):
            self.assertIsInstance(node.func, (ast.Name, ast.Attribute), where)

    def test_lists_and_dicts_of_a_file_have_none_within(self):
        for path, tree in trees():
            for node in tree.body:
                if isinstance(node, ast.Assign):
                    inner = [each for each in ast.walk(node.value) if isinstance(each, (ast.List, ast.Dict, ast.Set))]
                    self.assertLessEqual(len(inner), 1, path.name)

    def test_comparisons_with_is(self):
        for where, node, _ in self.each(ast.Compare):
            for sign, other in zip(node.ops, node.comparators):
                if isinstance(sign, (ast.Is, ast.IsNot)):
                    self.assertIn(ast.unparse(other), ("None", "True", "False"), where)


if __name__ == "__main__":
    unittest.main()
