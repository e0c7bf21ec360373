"""Holds the package's files to those rules of the language that a walk over the source can see."""

import ast
import builtins
import pathlib
import re
import unittest

PACKAGE = pathlib.Path(__file__).resolve().parent.parent / "rodbeads"

STATEMENTS = (
    ast.Assign, ast.AugAssign, ast.If, ast.While, ast.For, ast.Return, ast.Break, ast.Continue, ast.Pass, ast.Raise,
    ast.Try, ast.Expr, ast.FunctionDef, ast.ClassDef, ast.ImportFrom,
)
EXPRESSIONS = (
    ast.BoolOp, ast.BinOp, ast.UnaryOp, ast.Lambda, ast.IfExp, ast.Dict, ast.Set, ast.ListComp, ast.Compare, ast.Call,
    ast.FormattedValue, ast.JoinedStr, ast.Constant, ast.Attribute, ast.Subscript, ast.Name, ast.List, ast.Tuple,
    ast.Slice,
)
BUILT_IN = set(
    "len range enumerate zip min max sum abs sorted reversed int str bool list tuple dict set frozenset isinstance ord "
    "repr any all divmod Exception ValueError TypeError KeyError IndexError LookupError ZeroDivisionError "
    "ArithmeticError OverflowError RuntimeError NotImplementedError AttributeError StopIteration".split()
)
METHODS = set(
    "append clear copy count endswith extend find get index insert isalnum isalpha isdigit islower isspace isupper "
    "items join keys ljust lower lstrip partition pop remove replace reverse rfind rjust rpartition rsplit rstrip "
    "setdefault split splitlines startswith strip update upper values zfill bit_length".split()
)
WORDS = re.compile(
    r"\b(type|typing|typing_extensions|enum|Enum|IntEnum|StrEnum|Flag|IntFlag|Generic|Protocol|ABC|ABCMeta|namedtuple|"
    r"NamedTuple|TypedDict|TYPE_CHECKING|abstractmethod)\b|dataclass|overload|contextmanager"
)


class FormTest(unittest.TestCase):
    def sources(self):
        return [(path, path.read_bytes().decode("ascii")) for path in sorted(PACKAGE.glob("*.py"))]

    def nodes(self):
        return [(path.name, node) for path, text in self.sources() for node in ast.walk(ast.parse(text))]

    def test_only_plain_files_lie_in_the_package(self):
        names = [path.name for path in PACKAGE.iterdir() if path.name != "__pycache__"]
        self.assertIn("__init__.py", names)
        for name in names:
            self.assertRegex(name, r"^[a-z0-9_]+\.py$")

    def test_signs_and_sizes(self):
        for path, text in self.sources():
            self.assertRegex(text, r"\A[\n -~]*\Z", path)
            self.assertLessEqual(len(text.splitlines()), 400, path)
            self.assertLessEqual(max(len(line) for line in text.splitlines()), 120, path)
            self.assertIsNone(WORDS.search(text), path)

    def test_functions_are_short_and_plain(self):
        for name, node in self.nodes():
            if isinstance(node, ast.FunctionDef):
                self.assertLessEqual(node.end_lineno - node.lineno + 1, 40, (name, node.name))
                self.assertEqual(node.decorator_list, [])
                plain = (node.args.vararg, node.args.kwarg, node.args.kwonlyargs, node.args.posonlyargs)
                self.assertEqual(plain, (None, None, [], []), (name, node.name))

    def test_imports_are_the_packages_own(self):
        for name, node in self.nodes():
            if isinstance(node, ast.ImportFrom):
                self.assertRegex(node.module, r"^rodbeads\.[a-z]+$", name)
                self.assertEqual(node.level, 0, name)
                self.assertNotIn("*", [alias.name for alias in node.names], name)

    def tops(self):
        """For each file what its top defines, and what it draws from which file."""
        found = {}
        for path, text in self.sources():
            defined, drawn = [], []
            for node in ast.parse(text).body:
                if isinstance(node, (ast.FunctionDef, ast.ClassDef)):
                    defined.append(node.name)
                elif isinstance(node, ast.Assign):
                    defined.extend(target.id for target in node.targets)
                elif isinstance(node, ast.ImportFrom):
                    drawn.extend((node.module.partition(".")[2], alias.name) for alias in node.names)
            found[path.stem] = (defined, drawn)
        return found

    def test_each_top_name_is_bound_once(self):
        for name, (defined, drawn) in self.tops().items():
            bound = defined + [one for module, one in drawn]
            self.assertEqual(len(set(bound)), len(bound), name)

    def test_names_are_drawn_from_the_file_that_defines_them(self):
        tops = self.tops()
        for name, (defined, drawn) in tops.items():
            for module, one in drawn:
                self.assertIn(one, tops[module][0], name)

    def test_no_two_files_draw_from_one_another(self):
        left = {name: {module for module, one in drawn} for name, (defined, drawn) in self.tops().items()}
        while left:
            free = [name for name in left if not left[name] & set(left)]
            self.assertNotEqual(free, [], left)
            left = {name: left[name] for name in left if name not in free}

    def test_no_local_is_called_like_a_name_of_the_top(self):
        tops = self.tops()
        for name, node in self.nodes():
            defined, drawn = tops[name.partition(".")[0]]
            bound = defined + [one for module, one in drawn]
            if isinstance(node, ast.arg):
                self.assertNotIn(node.arg, bound, (name, node.lineno))
            if isinstance(node, ast.Name) and isinstance(node.ctx, ast.Store) and node.col_offset > 0:
                self.assertNotIn(node.id, bound, (name, node.lineno))

    def test_assignments_texts_and_powers(self):
        for name, node in self.nodes():
            where = (name, getattr(node, "lineno", 0))
            if isinstance(node, ast.Assign):
                self.assertEqual(len(node.targets), 1, where)
            if isinstance(node, ast.Constant) and isinstance(node.value, str):
                self.assertNotIn("%", node.value, where)
            if isinstance(node, ast.BinOp) and isinstance(node.op, ast.Pow):
                self.assertIsInstance(node.right, ast.Constant, where)
            if isinstance(node, ast.Compare) and any(isinstance(op, (ast.Is, ast.IsNot)) for op in node.ops):
                self.assertTrue(all(isinstance(side, ast.Constant) for side in node.comparators), where)

    def test_statements_and_expressions(self):
        for name, node in self.nodes():
            where = (name, getattr(node, "lineno", 0), node)
            if isinstance(node, ast.stmt):
                self.assertIsInstance(node, STATEMENTS, where)
                self.assertFalse(isinstance(node, (ast.For, ast.While)) and node.orelse, where)
                self.assertFalse(isinstance(node, ast.Try) and node.finalbody, where)
            if isinstance(node, ast.expr):
                self.assertIsInstance(node, EXPRESSIONS, where)
            if isinstance(node, ast.Constant):
                self.assertNotIsInstance(node.value, (float, complex, bytes), where)
            self.assertNotIsInstance(node, (ast.Div, ast.MatMult), where)

    def test_comprehensions_have_one_walk(self):
        for name, node in self.nodes():
            if isinstance(node, ast.ListComp):
                self.assertEqual(len(node.generators), 1, (name, node.lineno))
                self.assertLessEqual(len(node.generators[0].ifs), 1, (name, node.lineno))

    def test_names(self):
        for name, node in self.nodes():
            if isinstance(node, ast.Name):
                self.assertFalse(node.id.startswith("_"), (name, node.lineno))
                if hasattr(builtins, node.id):
                    self.assertIn(node.id, BUILT_IN, (name, node.lineno))
                    self.assertIsInstance(node.ctx, ast.Load, (name, node.lineno))
            if isinstance(node, ast.arg):
                self.assertFalse(hasattr(builtins, node.arg), (name, node.lineno))

    def test_methods(self):
        own = [node.name for name, node in self.nodes() if isinstance(node, ast.FunctionDef)]
        for name, node in self.nodes():
            if isinstance(node, ast.Call) and isinstance(node.func, ast.Attribute):
                self.assertIn(node.func.attr, METHODS.union(own), (name, node.lineno))


if __name__ == "__main__":
    unittest.main()
