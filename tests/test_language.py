"""Looks through the package's files for what its part of Python leaves out, as far as a plain look can tell."""

import ast
import pathlib
import re
import unittest

PACKAGE = pathlib.Path(__file__).resolve().parent.parent / "tokenwall"

OWN_NAMES = """
    len range enumerate zip min max sum abs sorted reversed int str bool list tuple dict set frozenset isinstance
    ord repr any all divmod Exception ValueError TypeError KeyError IndexError LookupError ZeroDivisionError
    ArithmeticError OverflowError RuntimeError NotImplementedError AttributeError StopIteration""".split()

METHODS = """
    append clear copy count endswith extend find get index insert isalnum isalpha isdigit islower isspace
    isupper items join keys ljust lower lstrip partition pop remove replace reverse rfind rjust rpartition rsplit rstrip
    setdefault split splitlines startswith strip update upper values zfill bit_length""".split()

WORDS = """type typing typing_extensions enum Enum IntEnum StrEnum Flag IntFlag Generic Protocol ABC ABCMeta namedtuple
    NamedTuple TypedDict TYPE_CHECKING abstractmethod""".split()

NODES = (ast.Module, ast.Expr, ast.Constant, ast.ImportFrom, ast.alias, ast.FunctionDef, ast.arguments, ast.arg,
         ast.ClassDef, ast.Assign, ast.AugAssign, ast.If, ast.While, ast.For, ast.Return, ast.Break, ast.Continue,
         ast.Pass, ast.Raise, ast.Try, ast.ExceptHandler, ast.Call, ast.keyword, ast.Name, ast.Attribute, ast.Subscript,
         ast.Slice, ast.List, ast.Tuple, ast.Dict, ast.Set, ast.ListComp, ast.comprehension, ast.JoinedStr,
         ast.FormattedValue, ast.BinOp, ast.UnaryOp, ast.BoolOp, ast.Compare, ast.IfExp, ast.Lambda, ast.expr_context,
         ast.operator, ast.unaryop, ast.boolop, ast.cmpop)


def files():
    return sorted(path for path in PACKAGE.rglob("*") if path.is_file() and "__pycache__" not in path.parts)


def trees():
    return [(path.name, ast.parse(path.read_text(encoding="utf-8"))) for path in files()]


def each_node():
    return [(name, node) for name, tree in trees() for node in ast.walk(tree)]


def bound_names(tree):
    found = set()
    for node in ast.walk(tree):
        if isinstance(node, (ast.FunctionDef, ast.ClassDef)):
            found.add(node.name)
        elif isinstance(node, ast.arg):
            found.add(node.arg)
        elif isinstance(node, ast.Name) and isinstance(node.ctx, ast.Store):
            found.add(node.id)
        elif isinstance(node, ast.ImportFrom):
            found.update(alias.asname or alias.name for alias in node.names)
        elif isinstance(node, ast.ExceptHandler) and node.name:
            found.add(node.name)
    return found


def own_methods():
    return {inner.name for name, node in each_node() if isinstance(node, ast.ClassDef)
            for inner in node.body if isinstance(inner, ast.FunctionDef)}


class Language(unittest.TestCase):
    def test_there_are_files(self):
        self.assertIn("__init__.py", [path.name for path in files()])

    def test_files_and_signs(self):
        for path in files():
            self.assertRegex(path.name, r"\A(__init__|__main__|[a-z][a-z0-9_]*)\.py\Z")
            text = path.read_bytes().decode("utf-8")
            self.assertRegex(text, r"\A[\n -~]*\Z", path.name)
            lines = text.split("\n")
            self.assertLessEqual(len(lines), 401, path.name)
            for line in lines:
                self.assertLessEqual(len(line), 120, path.name)

    def test_words_that_stand_nowhere(self):
        for path in files():
            text = path.read_text(encoding="utf-8")
            for word in WORDS:
                self.assertIsNone(re.search(r"\b" + word + r"\b", text), (path.name, word))
            self.assertIsNone(re.search("dataclass|overload|contextmanager", text), path.name)

    def test_statements_and_expressions(self):
        for name, node in each_node():
            self.assertIsInstance(node, NODES, (name, getattr(node, "lineno", 0)))
            self.assertNotIsInstance(node, (ast.Div, ast.MatMult), name)
            if isinstance(node, ast.Constant):
                self.assertIn(node.value.__class__, (int, str, bool, None.__class__), name)
            if isinstance(node, (ast.For, ast.While)):
                self.assertEqual(node.orelse, [], name)
            if isinstance(node, ast.Assign):
                self.assertEqual(len(node.targets), 1, name)
                self.assertNotIsInstance(node.targets[0], (ast.Tuple, ast.List), name)
            if isinstance(node, ast.ListComp):
                self.assertEqual(len(node.generators), 1, name)
                self.assertLessEqual(len(node.generators[0].ifs), 1, name)

    def test_calls_alone_stand_by_themselves(self):
        for name, tree in trees():
            for node in ast.walk(tree):
                if isinstance(node, ast.Expr) and node is not tree.body[0]:
                    self.assertIsInstance(node.value, ast.Call, (name, node.lineno))

    def test_functions(self):
        for name, node in each_node():
            if isinstance(node, (ast.FunctionDef, ast.ClassDef)):
                self.assertEqual(node.decorator_list, [], name)
            if isinstance(node, ast.FunctionDef):
                self.assertLessEqual(node.end_lineno - node.lineno + 1, 40, (name, node.name))
                rest = (node.args.vararg, node.args.kwarg, node.args.kwonlyargs, node.args.posonlyargs)
                self.assertEqual(rest, (None, None, [], []), (name, node.name))

    def test_classes_hold_methods_alone(self):
        for name, node in each_node():
            if isinstance(node, ast.ClassDef):
                self.assertLessEqual(len(node.bases), 1, name)
                for inner in node.body:
                    self.assertIsInstance(inner, (ast.FunctionDef, ast.Pass), (name, node.name))

    def test_the_top_of_a_module(self):
        for name, tree in trees():
            tops = [node.name for node in tree.body if isinstance(node, (ast.FunctionDef, ast.ClassDef))]
            self.assertEqual(len(tops), len(set(tops)), name)
            for node in tree.body[1:]:
                kinds = (ast.ImportFrom, ast.FunctionDef, ast.ClassDef, ast.Assign)
                self.assertIsInstance(node, kinds, (name, node.lineno))

    def test_imports(self):
        for name, node in each_node():
            if isinstance(node, ast.ImportFrom):
                self.assertEqual(node.level, 0, name)
                self.assertRegex(node.module, r"\Atokenwall\.[a-z]+\Z", name)
                self.assertNotIn("*", [alias.name for alias in node.names], name)

    def test_names(self):
        for name, tree in trees():
            bound = bound_names(tree)
            for each in bound - {"__init__"}:
                self.assertRegex(each, r"\A[A-Za-z][A-Za-z0-9_]*\Z", name)
                self.assertNotIn(each, dir(__builtins__) if not isinstance(__builtins__, dict) else __builtins__, name)
            for node in ast.walk(tree):
                if isinstance(node, ast.Name) and node.id not in bound:
                    self.assertIn(node.id, OWN_NAMES, (name, node.lineno))

    def test_methods(self):
        known = own_methods() | set(METHODS) | {"__init__"}
        for name, node in each_node():
            if isinstance(node, ast.Call) and isinstance(node.func, ast.Attribute):
                self.assertIn(node.func.attr, known, (name, node.lineno))

    def test_no_name_is_a_method_and_a_value(self):
        values = {node.attr for name, node in each_node()
                  if isinstance(node, ast.Attribute) and isinstance(node.ctx, ast.Store)}
        self.assertEqual(values & (own_methods() | set(METHODS)), set())

    def test_imports_come_from_the_file_that_defines_them_and_don_t_go_round(self):
        drawn = {}
        for name, tree in trees():
            rows = [node for node in tree.body if isinstance(node, ast.ImportFrom)]
            drawn[name] = {node.module.split(".")[1] + ".py" for node in rows}
            for node in rows:
                source = dict(trees())[node.module.split(".")[1] + ".py"]
                defined = {each.name for each in source.body if isinstance(each, (ast.FunctionDef, ast.ClassDef))}
                self.assertLessEqual({alias.name for alias in node.names}, defined, name)
        while drawn:
            free = [name for name in drawn if not drawn[name] & set(drawn)]
            self.assertNotEqual(free, [], drawn)
            for name in free:
                drawn.pop(name)

    def test_every_import_is_used(self):
        for name, tree in trees():
            used = {node.id for node in ast.walk(tree) if isinstance(node, ast.Name)}
            for node in tree.body:
                if isinstance(node, ast.ImportFrom):
                    self.assertLessEqual({alias.name for alias in node.names}, used, name)

    def test_no_local_is_called_like_a_class_or_an_import_of_its_file(self):
        for name, tree in trees():
            taken = {node.name for node in tree.body if isinstance(node, ast.ClassDef)}
            for node in tree.body:
                if isinstance(node, ast.ImportFrom):
                    taken.update(alias.name for alias in node.names)
            for node in ast.walk(tree):
                if isinstance(node, ast.arg):
                    self.assertNotIn(node.arg, taken, name)
                if isinstance(node, ast.Name) and isinstance(node.ctx, ast.Store):
                    self.assertNotIn(node.id, taken, name)

    def test_is_stands_beside_none_true_and_false(self):
        for name, node in each_node():
            if isinstance(node, ast.Compare):
                for operator, right in zip(node.ops, node.comparators):
                    if isinstance(operator, (ast.Is, ast.IsNot)):
                        self.assertIsInstance(right, ast.Constant, (name, node.lineno))
                        self.assertIn(right.value.__class__, (bool, None.__class__), (name, node.lineno))


if __name__ == "__main__":
    unittest.main()
