"""The package keeps to the small part of Python that it is written in (as far as that can be seen from its files)."""

import ast
import builtins
import pathlib
import re
import unittest

TOP = pathlib.Path(__file__).resolve().parent.parent / "leastrecord"

STATEMENTS = (ast.Assign, ast.AugAssign, ast.If, ast.While, ast.For, ast.Return, ast.Break, ast.Continue, ast.Pass,
              ast.Raise, ast.Try, ast.Expr, ast.FunctionDef, ast.ClassDef, ast.ImportFrom)
EXPRESSIONS = (ast.Constant, ast.List, ast.Tuple, ast.Dict, ast.BinOp, ast.UnaryOp, ast.BoolOp, ast.Compare, ast.IfExp,
               ast.Call, ast.Attribute, ast.Subscript, ast.Slice, ast.ListComp, ast.JoinedStr, ast.FormattedValue,
               ast.Name, ast.Lambda)
CALLED = (
    "len range enumerate zip min max sum abs sorted reversed int str bool list tuple dict set isinstance ord repr any all "
    "divmod"
).split()
ERRORS = (
    "Exception ValueError TypeError KeyError IndexError LookupError ZeroDivisionError ArithmeticError OverflowError "
    "RuntimeError NotImplementedError AttributeError StopIteration"
).split()
METHODS = (
    "append clear copy count endswith extend find get index insert isalnum isalpha isdigit islower isspace isupper items "
    "join keys ljust lower lstrip partition pop remove replace reverse rfind rjust rpartition rsplit rstrip setdefault split "
    "splitlines startswith strip update upper values zfill bit_length"
).split()
WALKED = ("zip", "enumerate", "reversed", "range", "items", "keys", "values")
WALKERS = ("list", "tuple", "dict", "sorted", "sum", "any", "all", "enumerate", "zip", "min", "max", "join")
WORDS_OUT = (
    "type typing typing_extensions enum Enum IntEnum StrEnum Flag IntFlag Generic Protocol ABC ABCMeta namedtuple NamedTuple "
    "TypedDict TYPE_CHECKING abstractmethod"
).split()
NAMES_OUT = "register mro elements open input version_info with_traceback add_note format format_map args encode".split()
OWN_DUNDERS = ("__init__", "__eq__", "__repr__", "__str__", "__len__")


def sources():
    return {path.stem: path.read_text(encoding="utf-8") for path in sorted(TOP.glob("*.py"))}


def called_name(call):
    return call.func.id if isinstance(call.func, ast.Name) else getattr(call.func, "attr", None)


def stored_names(tree):
    """Parameters and locals, wherever they stand."""
    names = [node.id for node in ast.walk(tree) if isinstance(node, ast.Name) and isinstance(node.ctx, ast.Store)]
    names += [node.arg for node in ast.walk(tree) if isinstance(node, ast.arg)]
    return names + [node.name for node in ast.walk(tree) if isinstance(node, ast.ExceptHandler) and node.name]


class Language(unittest.TestCase):
    def setUp(self):
        self.sources = sources()
        self.trees = {name: ast.parse(text) for name, text in self.sources.items()}

    def nodes(self, *kinds):
        for name, tree in self.trees.items():
            for node in ast.walk(tree):
                if isinstance(node, kinds):
                    yield f"{name}:{getattr(node, 'lineno', 0)}", node

    def test_nothing_but_modules_lies_in_the_package(self):
        for path in TOP.iterdir():
            if path.name != "__pycache__":
                self.assertRegex(path.name, r"\A(__init__|[a-z][a-z0-9_]*)\.py\Z")
                self.assertNotIn(path.stem, dir(builtins))

    def test_sizes_and_signs(self):
        for name, text in self.sources.items():
            self.assertLessEqual(len(text.splitlines()), 400, name)
            for row, line in enumerate(text.split("\n"), start=1):
                self.assertLessEqual(len(line), 120, (name, row))
                self.assertRegex(line, r"\A[ -~]*\Z", (name, row))
        for place, node in self.nodes(ast.FunctionDef):
            self.assertLessEqual(node.end_lineno - node.lineno + 1, 40, place)

    def test_words_that_stand_nowhere(self):
        for name, text in self.sources.items():
            for word in re.findall(r"\w+", text):
                self.assertNotIn(word, WORDS_OUT, name)
                self.assertNotRegex(word, "dataclass|overload|contextmanager", name)

    def test_the_top_of_each_module(self):
        for name, tree in self.trees.items():
            self.assertIsNotNone(ast.get_docstring(tree), name)
            bound = []
            for node in tree.body[1:]:
                self.assertIsInstance(node, (ast.ImportFrom, ast.FunctionDef, ast.ClassDef, ast.Assign), name)
                if isinstance(node, ast.Assign):
                    ast.literal_eval(node.value)
                    bound.append(node.targets[0].id)
                elif isinstance(node, ast.ImportFrom):
                    bound.extend(alias.name for alias in node.names)
                else:
                    bound.append(node.name)
            self.assertEqual(len(set(bound)), len(bound), name)

    def test_imports(self):
        drawn = {}
        for name, tree in self.trees.items():
            drawn[name] = []
            for node in ast.walk(tree):
                if isinstance(node, ast.ImportFrom):
                    self.assertIn(node, tree.body, name)
                    self.assertEqual(node.level, 0, name)
                    package, module = node.module.split(".")
                    self.assertEqual(package, "leastrecord", name)
                    made = [one.name for one in self.trees[module].body if isinstance(one, (ast.FunctionDef, ast.ClassDef))]
                    made += [one.targets[0].id for one in self.trees[module].body if isinstance(one, ast.Assign)]
                    for alias in node.names:
                        self.assertIn(alias.name, made, name)
                        self.assertIsNone(alias.asname, name)
                    drawn[name].append(module)
        while drawn:
            free = [name for name in drawn if not any(other in drawn for other in drawn[name])]
            self.assertNotEqual(free, [], f"files that draw from one another: {sorted(drawn)}")
            drawn = {name: others for name, others in drawn.items() if name not in free}

    def test_statements_and_expressions(self):
        for place, node in self.nodes(ast.stmt):
            self.assertIsInstance(node, STATEMENTS, place)
        for place, node in self.nodes(ast.expr):
            self.assertIsInstance(node, EXPRESSIONS, place)
        for place, node in self.nodes(ast.For, ast.While):
            self.assertEqual(node.orelse, [], place)
        for place, node in self.nodes(ast.Assign):
            self.assertEqual(len(node.targets), 1, place)
            self.assertNotIsInstance(node.targets[0], (ast.Tuple, ast.List), place)
        for place, node in self.nodes(ast.ListComp):
            self.assertEqual(len(node.generators), 1, place)
            self.assertLessEqual(len(node.generators[0].ifs), 1, place)
        for place, node in self.nodes(ast.FormattedValue):
            self.assertIsInstance(node.value, ast.Name, place)
            self.assertIsNone(node.format_spec, place)
        for place, node in self.nodes(ast.Div, ast.Pow):
            self.fail(place)

    def test_plain_values(self):
        for place, node in self.nodes(ast.Constant):
            self.assertIn(type(node.value), (int, str, bool, type(None)), place)
            if isinstance(node.value, str):
                self.assertNotIn("%", node.value, place)
        for place, node in self.nodes(ast.Compare):
            for operator, one, other in zip(node.ops, [node.left] + node.comparators, node.comparators):
                if isinstance(operator, (ast.Is, ast.IsNot)):
                    beside = [side.value for side in (one, other) if isinstance(side, ast.Constant)]
                    self.assertTrue(any(value in (None, True, False) for value in beside), place)

    def test_functions_and_classes(self):
        for place, node in self.nodes(ast.FunctionDef):
            self.assertEqual(node.decorator_list, [], place)
            self.assertIsNone(node.returns, place)
            self.assertEqual((node.args.vararg, node.args.kwarg), (None, None), place)
            self.assertEqual(node.args.kwonlyargs + node.args.posonlyargs, [], place)
        for place, node in self.nodes(ast.arg):
            self.assertIsNone(node.annotation, place)
        methods, values = set(), set()
        for place, node in self.nodes(ast.ClassDef):
            self.assertEqual((node.decorator_list, node.keywords), ([], []), place)
            self.assertLessEqual(len(node.bases), 1, place)
            for one in node.body[1:]:
                self.assertIsInstance(one, ast.FunctionDef, place)
            methods.update(one.name for one in node.body[1:])
        for place, node in self.nodes(ast.Attribute):
            if isinstance(node.ctx, ast.Store):
                values.add(node.attr)
        self.assertEqual(methods & values, set())

    def test_names(self):
        for name, tree in self.trees.items():
            made = [node.name for node in ast.walk(tree) if isinstance(node, (ast.FunctionDef, ast.ClassDef))]
            taken = [alias.name for node in tree.body if isinstance(node, ast.ImportFrom) for alias in node.names]
            taken += [node.name for node in tree.body if isinstance(node, ast.ClassDef)]
            for word in stored_names(tree):
                self.assertNotIn(word, dir(builtins), name)
                self.assertNotIn(word, taken, name)
            for word in stored_names(tree) + made:
                self.assertNotIn(word, NAMES_OUT, name)
                if word not in OWN_DUNDERS:
                    self.assertRegex(word, r"\A[A-Za-z]\w*\Z", name)
            known = set(stored_names(tree) + made + taken + CALLED + ERRORS)
            used = [node.id for node in ast.walk(tree) if isinstance(node, ast.Name) and isinstance(node.ctx, ast.Load)]
            self.assertEqual([word for word in used if word not in known], [], name)

    def test_calls(self):
        own = [node.name for place, node in self.nodes(ast.FunctionDef)]
        for place, node in self.nodes(ast.Call):
            if isinstance(node.func, ast.Attribute):
                self.assertIn(node.func.attr, METHODS + own, place)
            self.assertFalse(node.keywords and called_name(node) not in own + ["sorted", "min", "max", "sum", "enumerate", "zip"])
        for place, node in self.nodes(ast.Attribute):
            self.assertNotIn(node.attr, NAMES_OUT, place)

    def test_what_is_walked_at_once(self):
        for name, tree in self.trees.items():
            walked = []
            for node in ast.walk(tree):
                if isinstance(node, (ast.For, ast.comprehension)):
                    walked.append(node.iter)
                elif isinstance(node, ast.Call) and called_name(node) in WALKERS:
                    walked.extend(node.args)
            for node in ast.walk(tree):
                if isinstance(node, ast.Call) and called_name(node) in WALKED:
                    self.assertIn(node, walked, f"{name}:{node.lineno}")

    def test_sets_stand_within_len_or_sorted(self):
        for name, tree in self.trees.items():
            within = [arg for node in ast.walk(tree) if isinstance(node, ast.Call) and called_name(node) in ("len", "sorted")
                      for arg in node.args]
            for node in ast.walk(tree):
                if isinstance(node, ast.Call) and called_name(node) == "set":
                    self.assertIn(node, within, f"{name}:{node.lineno}")

    def test_errors_are_raised_on_the_spot_and_taken_by_name(self):
        refusals = [node.name for node in self.trees["errors"].body if isinstance(node, ast.ClassDef)]
        for place, node in self.nodes(ast.Raise):
            self.assertIsInstance(node.exc, ast.Call, place)
            self.assertIn(called_name(node.exc), refusals, place)
        for place, node in self.nodes(ast.ExceptHandler):
            self.assertIn(getattr(node.type, "id", None), refusals + ["KeyError", "ZeroDivisionError"], place)
        for place, node in self.nodes(ast.Try):
            self.assertEqual(node.finalbody, [], place)


if __name__ == "__main__":
    unittest.main()
