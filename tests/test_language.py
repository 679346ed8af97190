"""The part of Python that the package keeps to: many of its rules, not all of them (of L15, L18, L19, L22 and L26 a part)."""

import ast
import builtins
import os
import re
import unittest

TOP = os.path.join(os.path.dirname(os.path.dirname(os.path.abspath(__file__))), "callmill")
OWN_NAMES = set(
    "len range enumerate zip min max sum abs sorted reversed int str bool list tuple dict set frozenset isinstance ord "
    "repr any all divmod Exception ValueError TypeError KeyError IndexError LookupError ZeroDivisionError "
    "ArithmeticError OverflowError RuntimeError NotImplementedError AttributeError StopIteration".split())
METHODS = set(
    "append clear copy count endswith extend find get index insert isalnum isalpha isdigit islower isspace isupper items "
    "join keys ljust lower lstrip partition pop remove replace reverse rfind rjust rpartition rsplit rstrip setdefault "
    "split splitlines startswith strip update upper values zfill bit_length".split())
NO_WORDS = (
    "type typing typing_extensions enum Enum IntEnum StrEnum Flag IntFlag Generic Protocol ABC ABCMeta namedtuple "
    "NamedTuple TypedDict TYPE_CHECKING abstractmethod").split()
NO_NAMES = set(
    "register mro elements open input version_info with_traceback add_note attrgetter breakpoint builtins compile "
    "copyright credits delattr dir eval exec exit gc getattr globals hasattr help id importlib license locals "
    "methodcaller os quit setattr super type vars sys chr".split())
DUNDERS = {"__init__", "__eq__", "__repr__", "__str__", "__len__"}
NO_VALUES = set(
    "items keys values pop update append clear extend insert remove reverse setdefault sort args encode format".split())
WALKERS = ("list", "tuple", "dict", "sorted", "sum", "any", "all", "enumerate", "zip")
CHANGES = set("append clear extend insert pop remove reverse setdefault update".split())
NODES = (
    ast.Module, ast.FunctionDef, ast.ClassDef, ast.arguments, ast.arg, ast.Import, ast.ImportFrom, ast.alias,
    ast.Assign, ast.AugAssign, ast.If, ast.While, ast.For, ast.Return, ast.Break, ast.Continue, ast.Pass, ast.Raise,
    ast.Try, ast.ExceptHandler, ast.Expr, ast.Constant, ast.List, ast.Tuple, ast.Dict, ast.BinOp, ast.UnaryOp,
    ast.BoolOp, ast.Compare, ast.IfExp, ast.Call, ast.keyword, ast.Attribute, ast.Subscript, ast.Slice, ast.ListComp,
    ast.comprehension, ast.JoinedStr, ast.FormattedValue, ast.Name, ast.Lambda, ast.Load, ast.Store, ast.operator,
    ast.unaryop, ast.boolop, ast.cmpop)


def files():
    return sorted(name for name in os.listdir(TOP) if name != "__pycache__")


class Case(unittest.TestCase):
    def setUp(self):
        self.texts, self.trees = {}, {}
        for name in files():
            with open(os.path.join(TOP, name), encoding="utf-8") as file:
                self.texts[name] = file.read()
            self.trees[name] = ast.parse(self.texts[name])

    def nodes(self, *kinds):
        """Each node of these kinds, with the name of its file and its row."""
        for name, tree in self.trees.items():
            for node in ast.walk(tree):
                if isinstance(node, kinds):
                    yield name + ":" + str(getattr(node, "lineno", 0)), node


class Files(Case):
    def test_names(self):
        self.assertIn("__init__.py", files())
        for name in files():
            self.assertRegex(name, "^([a-z][a-z0-9_]*|__init__|__main__)[.]py$")
            self.assertNotIn(name[:-3], dir(builtins))
            self.assertNotRegex(name, "^(tests?|testing|test_.*|site|conftest|sitecustomize|usercustomize)[.]py$")

    def test_sizes_and_signs(self):
        for name, text in self.texts.items():
            rows = text.split("\n")
            self.assertLessEqual(len(rows), 400, name)
            for number, row in enumerate(rows, 1):
                self.assertLessEqual(len(row), 120, (name, number))
                self.assertRegex(row, "^[ -~]*$", (name, number))
        for where, node in self.nodes(ast.FunctionDef):
            self.assertLessEqual(node.end_lineno - node.lineno + 1, 40, where)

    def test_words_that_stand_nowhere(self):
        for name, text in self.texts.items():
            for word in re.findall("[A-Za-z_]+", text):
                self.assertNotIn(word, NO_WORDS, name)
                self.assertNotRegex(word, "dataclass|overload|contextmanager", name)


class Heads(Case):
    def test_imports(self):
        drawn = {}
        for name, tree in self.trees.items():
            drawn[name] = []
            for node in tree.body:
                if isinstance(node, ast.ImportFrom):
                    self.assertRegex(node.module, "^callmill[.][a-z_]+$")
                    source = node.module.split(".")[1] + ".py"
                    drawn[name].append(source)
                    for alias in node.names:
                        self.assertIn(alias.name, self.bound(source), name)
                        self.assertIsNone(alias.asname)
        self.assertEqual(len(list(self.nodes(ast.Import))), 0)
        self.assertEqual(len(list(self.nodes(ast.ImportFrom))), sum(len(each) for each in drawn.values()))
        gone = []
        while len(gone) < len(drawn):
            free = [name for name in drawn if name not in gone and all(one in gone for one in drawn[name])]
            self.assertNotEqual(free, [], "two files draw from one another")
            gone += free

    def bound(self, name):
        found = []
        for node in self.trees[name].body:
            if isinstance(node, (ast.FunctionDef, ast.ClassDef)):
                found.append(node.name)
            if isinstance(node, ast.Assign):
                found.append(node.targets[0].id)
        return found

    def test_the_top(self):
        for name, tree in self.trees.items():
            self.assertIsNotNone(ast.get_docstring(tree), name)
            for node in tree.body[1:]:
                self.assertIsInstance(node, (ast.ImportFrom, ast.FunctionDef, ast.ClassDef, ast.Assign), name)
            found = self.bound(name)
            self.assertEqual(len(found), len(set(found)), name)


class Written(Case):
    def test_nodes(self):
        for where, node in self.nodes(ast.AST):
            self.assertIsInstance(node, NODES, where)

    def test_functions_and_classes(self):
        for where, node in self.nodes(ast.FunctionDef):
            arguments = node.args
            self.assertEqual(node.decorator_list, [], where)
            self.assertIsNone(arguments.vararg or arguments.kwarg, where)
            self.assertEqual(arguments.kwonlyargs + arguments.posonlyargs, [], where)
            self.assertIsNone(node.returns, where)
        for where, node in self.nodes(ast.ClassDef):
            self.assertEqual(node.decorator_list + node.keywords, [], where)
            self.assertLessEqual(len(node.bases), 1, where)
            for inner in node.body:
                self.assertTrue(isinstance(inner, ast.FunctionDef) or isinstance(inner.value.value, str), where)

    def test_statements(self):
        for where, node in self.nodes(ast.Assign):
            self.assertEqual(len(node.targets), 1, where)
            self.assertNotIsInstance(node.targets[0], ast.Tuple, where)
        for where, node in self.nodes(ast.For, ast.While):
            self.assertEqual(node.orelse, [], where)
        for where, node in self.nodes(ast.Expr):
            self.assertIsInstance(node.value, (ast.Call, ast.Constant), where)
        for where, node in self.nodes(ast.Raise):
            self.assertIsInstance(node.exc, ast.Call, where)

    def test_expressions(self):
        for where, node in self.nodes(ast.ListComp):
            self.assertEqual(len(node.generators), 1, where)
            self.assertLessEqual(len(node.generators[0].ifs), 1, where)
        for where, node in self.nodes(ast.BinOp, ast.AugAssign):
            self.assertNotIsInstance(node.op, (ast.Div, ast.MatMult), where)
        for where, node in self.nodes(ast.Compare):
            for op, side in zip(node.ops, node.comparators):
                if isinstance(op, (ast.Is, ast.IsNot)):
                    self.assertTrue(isinstance(side, ast.Constant) and side.value in (None, True, False), where)
        for where, node in self.nodes(ast.FormattedValue):
            self.assertIsInstance(node.value, ast.Name, where)
            self.assertIsNone(node.format_spec, where)
        for where, node in self.nodes(ast.Constant):
            self.assertIsInstance(node.value, (int, str, type(None)), where)
            self.assertFalse(isinstance(node.value, str) and "%" in node.value, where)

    def test_names(self):
        for where, node in self.nodes(ast.Name):
            self.assertNotIn(node.id, NO_NAMES, where)
            self.assertFalse(node.id.startswith("_"), where)
            if isinstance(node.ctx, ast.Store):
                self.assertNotIn(node.id, dir(builtins), where)
            elif node.id in dir(builtins):
                self.assertIn(node.id, OWN_NAMES, where)
        for where, node in self.nodes(ast.arg):
            self.assertNotIn(node.arg, dir(builtins), where)
            self.assertFalse(node.arg.startswith("_"), where)
        for where, node in self.nodes(ast.FunctionDef, ast.ClassDef):
            self.assertTrue(node.name in DUNDERS or not node.name.startswith("_"), where)

    def test_no_local_is_called_like_a_class_or_an_import_of_its_file(self):
        for name, tree in self.trees.items():
            taken = [alias.name for node in tree.body if isinstance(node, ast.ImportFrom) for alias in node.names]
            taken += [node.name for node in tree.body if isinstance(node, ast.ClassDef)]
            for node in ast.walk(tree):
                if isinstance(node, ast.Name) and isinstance(node.ctx, ast.Store):
                    self.assertNotIn(node.id, taken, name)
                if isinstance(node, ast.arg):
                    self.assertNotIn(node.arg, taken, name)

    def test_methods_and_values(self):
        methods, values = set(), set()
        for where, node in self.nodes(ast.ClassDef):
            methods |= {inner.name for inner in node.body if isinstance(inner, ast.FunctionDef)}
        for where, node in self.nodes(ast.Attribute):
            self.assertNotIn(node.attr, NO_NAMES, where)
            if isinstance(node.ctx, ast.Store):
                values.add(node.attr)
        self.assertEqual(methods & values, set())
        self.assertEqual(values & NO_VALUES, set())
        for where, node in self.nodes(ast.Call):
            if isinstance(node.func, ast.Attribute):
                self.assertIn(node.func.attr, METHODS | methods, where)

    def test_methods_with_two_underscores(self):
        for where, node in self.nodes(ast.FunctionDef):
            # Of those that L28 tells of, the package has this one alone.
            self.assertTrue(node.name == "__init__" or not node.name.startswith("__"), where)
            if node.name == "__init__":
                self.assertFalse([each for each in ast.walk(node) if isinstance(each, ast.Return)], where)
        for where, node in self.nodes(ast.Attribute):
            if node.attr == "__init__":
                self.assertIsInstance(node.value, ast.Name, where)

    def test_walked_at_once(self):
        walked = {id(node.iter) for where, node in self.nodes(ast.For, ast.comprehension)}
        for where, node in self.nodes(ast.Call):
            name = node.func.id if isinstance(node.func, ast.Name) else node.func.attr
            if name in WALKERS and node.args:
                walked.add(id(node.args[0]))
            if name in ("min", "max") and len(node.args) == 1:
                walked.add(id(node.args[0]))
            if name == "zip":
                walked |= {id(each) for each in node.args}
            if name == "join":
                self.assertIsInstance(node.func.value, ast.Constant, where)
                walked.add(id(node.args[0]))
        for where, node in self.nodes(ast.Call):
            if isinstance(node.func, ast.Name) and node.func.id in ("zip", "enumerate", "reversed", "range"):
                self.assertIn(id(node), walked, where)
            if isinstance(node.func, ast.Attribute) and node.func.attr in ("items", "keys", "values"):
                self.assertIn(id(node), walked, where)

    def test_what_is_walked_is_not_changed(self):
        for where, node in self.nodes(ast.For):
            walked = [node.iter]
            if isinstance(node.iter, ast.Call):
                walked = node.iter.args + ([node.iter.func.value] if isinstance(node.iter.func, ast.Attribute) else [])
            if isinstance(node.iter, ast.Call) and isinstance(node.iter.func, ast.Name) and node.iter.func.id in ("list", "sorted"):
                walked = []
            kept = [ast.dump(each) for each in walked]
            for inner in ast.walk(node):
                if isinstance(inner, ast.Call) and isinstance(inner.func, ast.Attribute) and inner.func.attr in CHANGES:
                    self.assertNotIn(ast.dump(inner.func.value), kept, where)
                if isinstance(inner, ast.Subscript) and isinstance(inner.ctx, ast.Store):
                    self.assertNotIn(ast.dump(inner.value), kept, where)

    def test_sets(self):
        fit = set()
        for where, node in self.nodes(ast.Compare):
            if isinstance(node.ops[0], (ast.In, ast.NotIn, ast.Eq, ast.NotEq)):
                fit |= {id(node.left), id(node.comparators[0])}
        for where, node in self.nodes(ast.Call):
            if isinstance(node.func, ast.Name) and node.func.id in ("sorted", "len"):
                fit.add(id(node.args[0]))
        for where, node in self.nodes(ast.Call):
            if isinstance(node.func, ast.Name) and node.func.id in ("set", "frozenset"):
                self.assertIn(id(node), fit, where)

    def test_lambdas_of_one_line(self):
        found = [(where, ast.dump(node.args)) for where, node in self.nodes(ast.Lambda)]
        self.assertEqual(len(found), len(set(found)))

    def test_errors_that_are_taken(self):
        own = {node.name for where, node in self.nodes(ast.ClassDef)}
        for where, node in self.nodes(ast.ExceptHandler):
            named = node.type.elts if isinstance(node.type, ast.Tuple) else [node.type]
            for each in named:
                self.assertIn(each.id, own | {"KeyError", "ZeroDivisionError", "StopIteration", "ValueError", "LookupError",
                                              "IndexError"}, where)
        for where, node in self.nodes(ast.Try):
            self.assertEqual(node.finalbody, [], where)
        for where, node in self.nodes(ast.Raise):
            self.assertIn(node.exc.func.id, own | {"NotImplementedError"}, where)

    def test_what_the_top_keeps_is_only_read(self):
        for name, tree in self.trees.items():
            kept = []
            for node in tree.body:
                if isinstance(node, ast.Assign) and isinstance(node.value, (ast.List, ast.Dict)):
                    kept.append(node.targets[0].id)
                    inner = [each for each in ast.walk(node.value) if isinstance(each, (ast.List, ast.Dict))]
                    self.assertEqual(len(inner), 1, name)
            for node in ast.walk(tree):
                if isinstance(node, ast.Attribute) and isinstance(node.value, ast.Name):
                    self.assertFalse(node.value.id in kept and node.attr in CHANGES, name)
                if isinstance(node, ast.Subscript) and isinstance(node.ctx, ast.Store) and isinstance(node.value, ast.Name):
                    self.assertNotIn(node.value.id, kept, name)
                if isinstance(node, ast.Return) and isinstance(node.value, ast.Name):
                    self.assertNotIn(node.value.id, kept, name)

    def test_keywords(self):
        own = {node.name for where, node in self.nodes(ast.FunctionDef, ast.ClassDef)}
        allowed = {"sorted": {"key", "reverse"}, "min": {"key", "default"}, "max": {"key", "default"}, "sum": {"start"},
                   "enumerate": {"start"}, "zip": {"strict"}}
        for where, node in self.nodes(ast.Call):
            name = node.func.id if isinstance(node.func, ast.Name) else node.func.attr
            if name not in own:
                self.assertLessEqual({each.arg for each in node.keywords}, allowed.get(name, set()), where)


if __name__ == "__main__":
    unittest.main()
