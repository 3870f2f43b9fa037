"""What can be seen of the rules of LANGUAGE.md by reading the package's files."""

import ast
import builtins
import re
import unittest
from pathlib import Path

PACKAGE = Path(__file__).resolve().parent.parent / "sittingrooms"
FILES = sorted(path for path in PACKAGE.rglob("*") if path.is_file() and "__pycache__" not in path.parts)

NODES = """Module FunctionDef arguments arg ClassDef Return Assign AugAssign For While If Raise Try ExceptHandler
ImportFrom alias Expr Pass Break Continue BoolOp And Or BinOp Add Sub Mult FloorDiv Mod Pow BitOr BitAnd BitXor LShift
RShift UnaryOp Not USub UAdd Invert Lambda IfExp Dict ListComp comprehension Compare Eq NotEq Lt LtE Gt GtE Is IsNot In
NotIn Call keyword JoinedStr FormattedValue Constant Attribute Subscript Slice Name List Tuple Load Store""".split()
BUILTINS = """len range enumerate zip min max sum abs sorted reversed int str bool list tuple dict set frozenset
isinstance ord repr any all divmod Exception ValueError TypeError KeyError IndexError LookupError ZeroDivisionError
ArithmeticError OverflowError RuntimeError NotImplementedError AttributeError StopIteration""".split()
METHODS = """append clear copy count endswith extend find get index insert isalnum isalpha isdigit islower isspace
isupper items join keys ljust lower lstrip partition pop remove replace reverse rfind rjust rpartition rsplit rstrip
setdefault split splitlines startswith strip update upper values zfill bit_length""".split()
WORDS = """type typing typing_extensions enum Enum IntEnum StrEnum Flag IntFlag Generic Protocol ABC ABCMeta namedtuple
NamedTuple TypedDict TYPE_CHECKING abstractmethod""".split()
NEVER = "register mro elements open input version_info with_traceback add_note format format_map".split()
WALKED = ("zip", "enumerate", "reversed", "range")
WALKERS = ("list", "tuple", "dict", "sorted", "sum", "any", "all", "enumerate", "zip", "min", "max")
CHANGES = ("append", "clear", "extend", "insert", "pop", "remove", "reverse", "setdefault", "update")
METHODS_OF_PYTHON = {name for kind in (str, int, list, dict, set, bytes) for name in dir(kind)}


def bound_names(tree):
    """All names that defs, classes, parameters, imports and assignments give."""
    for node in ast.walk(tree):
        if isinstance(node, (ast.FunctionDef, ast.ClassDef)):
            yield node.name
        elif isinstance(node, ast.arg):
            yield node.arg
        elif isinstance(node, ast.alias):
            yield node.asname or node.name
        elif isinstance(node, ast.Name) and isinstance(node.ctx, ast.Store):
            yield node.id


def is_plain(node, functions):
    if isinstance(node, ast.Constant):
        return node.value is None or isinstance(node.value, (int, str))
    if isinstance(node, ast.UnaryOp):
        return isinstance(node.op, ast.USub) and isinstance(node.operand, ast.Constant)
    if isinstance(node, ast.Name):
        return node.id in functions
    if isinstance(node, (ast.Tuple, ast.List)):
        return all(is_plain(each, functions) for each in node.elts)
    if isinstance(node, ast.Dict):
        return all(is_plain(each, functions) for each in node.keys + node.values)
    return False


class Language(unittest.TestCase):
    def each(self):
        for path in FILES:
            text = path.read_text(encoding="utf-8")
            with self.subTest(path.name):
                yield path, text, ast.parse(text)

    def test_files(self):
        self.assertIn(PACKAGE / "__init__.py", FILES)
        self.assertIn(PACKAGE / "office.py", FILES)
        for path in FILES:
            self.assertRegex(path.name, r"^[a-z_][a-z0-9_]*\.py$")
            self.assertNotIn(path.stem, dir(builtins))
            self.assertNotRegex(path.stem, r"^(tests?|testing|test_.*|site|conftest|sitecustomize|usercustomize)$")

    def test_sizes_and_signs(self):
        for path, text, tree in self.each():
            self.assertRegex(text, r"\A[ -~\n]*\Z")
            rows = text.split("\n")
            self.assertLessEqual(len(rows), 400)
            self.assertLessEqual(max(map(len, rows)), 120)
            for node in ast.walk(tree):
                if isinstance(node, ast.FunctionDef):
                    self.assertLessEqual(node.end_lineno - node.lineno + 1, 40, node.name)

    def test_words(self):
        for path, text, tree in self.each():
            for word in WORDS:
                self.assertNotRegex(text, r"\b" + word + r"\b")
            self.assertNotRegex(text, r"dataclass|overload|contextmanager")

    def test_nodes(self):
        for path, text, tree in self.each():
            for node in ast.walk(tree):
                self.assertIn(type(node).__name__, NODES, ast.dump(node))
                if isinstance(node, ast.Assign):
                    self.assertEqual(len(node.targets), 1)
                    self.assertNotIsInstance(node.targets[0], ast.Tuple)
                if isinstance(node, (ast.For, ast.While)):
                    self.assertEqual(node.orelse, [])
                if isinstance(node, ast.ListComp):
                    self.assertEqual(len(node.generators), 1)
                    self.assertLessEqual(len(node.generators[0].ifs), 1)
                if isinstance(node, ast.Constant):
                    self.assertIn(type(node.value), (int, str, bool, type(None)))
                if isinstance(node, ast.Compare):
                    for sign, side in zip(node.ops, node.comparators):
                        if isinstance(sign, (ast.Is, ast.IsNot)):
                            self.assertIsInstance(side, ast.Constant)
                if isinstance(node, ast.BinOp) and isinstance(node.op, ast.Pow):
                    self.assertIsInstance(node.right, ast.Constant)

    def test_top_of_each_file(self):
        for path, text, tree in self.each():
            functions = []
            names = []
            for place, node in enumerate(tree.body):
                if isinstance(node, ast.Expr):
                    self.assertEqual(place, 0)
                    self.assertIsInstance(node.value, ast.Constant)
                elif isinstance(node, ast.ImportFrom):
                    names += [alias.name for alias in node.names]
                elif isinstance(node, ast.FunctionDef):
                    functions.append(node.name)
                    names.append(node.name)
                elif isinstance(node, ast.ClassDef):
                    names.append(node.name)
                else:
                    self.assertIsInstance(node, ast.Assign)
                    self.assertTrue(is_plain(node.value, functions), ast.unparse(node))
                    names.append(node.targets[0].id)
            self.assertEqual(len(names), len(set(names)))

    def test_imports(self):
        drawn = {}
        for path, text, tree in self.each():
            drawn[path.stem] = []
            for node in ast.walk(tree):
                if isinstance(node, ast.ImportFrom):
                    self.assertEqual(node.level, 0)
                    self.assertRegex(node.module, r"^sittingrooms\.[a-z_]+$")
                    stem = node.module.split(".")[1]
                    drawn[path.stem].append(stem)
                    other = ast.parse((PACKAGE / (stem + ".py")).read_text())
                    defined = [each.name for each in other.body if isinstance(each, (ast.FunctionDef, ast.ClassDef))]
                    for alias in node.names:
                        self.assertIn(alias.name, defined)
                        self.assertIsNone(alias.asname)
        while drawn:
            ends = [stem for stem in drawn if not any(other in drawn for other in drawn[stem])]
            self.assertTrue(ends, "files draw from one another")
            for stem in ends:
                drawn.pop(stem)

    def test_names(self):
        for path, text, tree in self.each():
            top = [node.name for node in tree.body if isinstance(node, ast.ClassDef)]
            top += [alias.name for node in tree.body if isinstance(node, ast.ImportFrom) for alias in node.names]
            locals_of_it = [name for node in ast.walk(tree) if isinstance(node, ast.FunctionDef)
                            for name in bound_names(node) if name != node.name]
            self.assertEqual([name for name in locals_of_it if name in top], [])
            for name in bound_names(tree):
                if name != "__init__":
                    self.assertRegex(name, r"^[A-Za-z][A-Za-z0-9_]*$")
                self.assertNotIn(name, dir(builtins))
                self.assertNotIn(name, NEVER)
            bound = set(bound_names(tree))
            for node in ast.walk(tree):
                if isinstance(node, ast.Name) and isinstance(node.ctx, ast.Load) and node.id not in bound:
                    self.assertIn(node.id, BUILTINS)

    def test_attributes_and_methods(self):
        for path, text, tree in self.each():
            called = [node.func for node in ast.walk(tree) if isinstance(node, ast.Call)]
            for node in ast.walk(tree):
                if not isinstance(node, ast.Attribute):
                    continue
                self.assertNotIn(node.attr, NEVER)
                if any(node is func for func in called):
                    self.assertIn(node.attr, METHODS)
                else:
                    self.assertNotIn(node.attr, METHODS_OF_PYTHON)

    def test_walked_at_once(self):
        for path, text, tree in self.each():
            let = []
            for node in ast.walk(tree):
                if isinstance(node, (ast.For, ast.comprehension)):
                    let.append(node.iter)
                if isinstance(node, ast.Call) and isinstance(node.func, ast.Name) and node.args:
                    if node.func.id in WALKERS:
                        let.append(node.args[0])
            for node in ast.walk(tree):
                if not isinstance(node, ast.Call):
                    continue
                walks = isinstance(node.func, ast.Name) and node.func.id in WALKED
                views = isinstance(node.func, ast.Attribute) and node.func.attr in ("items", "keys", "values")
                if walks or views:
                    self.assertTrue(any(node is each for each in let), ast.unparse(node))

    def test_what_is_kept_at_the_top_is_only_read(self):
        for path, text, tree in self.each():
            kept = [node.targets[0].id for node in tree.body if isinstance(node, ast.Assign)
                    and isinstance(node.value, (ast.List, ast.Dict, ast.Tuple))]
            for node in tree.body:
                if isinstance(node, ast.Assign) and isinstance(node.value, (ast.List, ast.Dict)):
                    within = [each for each in ast.walk(node.value) if each is not node.value]
                    self.assertEqual([each for each in within if isinstance(each, (ast.List, ast.Dict))], [])
            read = []
            for node in ast.walk(tree):
                if isinstance(node, ast.Subscript) and isinstance(node.ctx, ast.Load):
                    read.append(node.value)
                if isinstance(node, (ast.For, ast.comprehension)):
                    read.append(node.iter)
            for node in ast.walk(tree):
                if isinstance(node, ast.Name) and isinstance(node.ctx, ast.Load) and node.id in kept:
                    self.assertTrue(any(node is each for each in read), node.id)

    def test_values_are_given_through_a_name(self):
        for path, text, tree in self.each():
            for node in ast.walk(tree):
                if isinstance(node, ast.Attribute) and isinstance(node.ctx, ast.Store):
                    self.assertIsInstance(node.value, ast.Name, ast.unparse(node))

    def test_what_a_loop_walks_is_not_changed_in_it(self):
        for path, text, tree in self.each():
            for loop in [node for node in ast.walk(tree) if isinstance(node, ast.For)]:
                walked = loop.iter
                if isinstance(walked, ast.Call) and not isinstance(walked.func, ast.Attribute) and walked.args:
                    walked = walked.args[0]
                elif isinstance(walked, ast.Call) and isinstance(walked.func, ast.Attribute):
                    walked = walked.func.value
                for node in [each for row in loop.body for each in ast.walk(row)]:
                    if isinstance(node, ast.Subscript) and isinstance(node.ctx, ast.Store):
                        self.assertNotEqual(ast.unparse(node.value), ast.unparse(walked))
                    if isinstance(node, ast.Attribute) and node.attr in CHANGES:
                        self.assertNotEqual(ast.unparse(node.value), ast.unparse(walked))

    def test_no_name_is_a_method_and_a_value(self):
        methods = set()
        values = set()
        for path, text, tree in self.each():
            for node in ast.walk(tree):
                if isinstance(node, ast.ClassDef):
                    methods |= {each.name for each in node.body if isinstance(each, ast.FunctionDef)}
                if isinstance(node, ast.Attribute) and isinstance(node.ctx, ast.Store):
                    values.add(node.attr)
        self.assertEqual(methods & values, set())

    def test_sets(self):
        for path, text, tree in self.each():
            for found in re.finditer(r"(\w*\(?)\b(?:frozen)?set\(", text):
                self.assertIn(found.group(1), ("sorted(", "len("))


if __name__ == "__main__":
    unittest.main()
