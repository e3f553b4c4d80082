"""The plain part of Python that the package keeps to: narrower here than it would have to be."""

import ast
import builtins
import unittest
from functools import lru_cache
from pathlib import Path

PACKAGE = Path(__file__).resolve().parent.parent / "logsapart"
LIBRARY = {"math": {"gcd", "lcm", "comb"}}
CALLED = {
    "len", "range", "enumerate", "zip", "min", "max", "sum", "abs", "sorted", "reversed", "int", "str", "list", "tuple",
    "dict", "isinstance", "any", "all", "set",
}
NAMED = CALLED | {"bool", "ValueError", "KeyError"}
METHODS = {"append", "extend", "pop", "split", "join", "values", "items", "index", "count", "get", "setdefault", "bit_length"}
BUILTINS = set(dir(builtins)) - {"_"}
NODES = (
    ast.Module, ast.FunctionDef, ast.ClassDef, ast.arguments, ast.arg, ast.Import, ast.ImportFrom, ast.alias, ast.Expr,
    ast.Assign, ast.AugAssign, ast.Return, ast.Raise, ast.If, ast.For, ast.While, ast.Break, ast.IfExp, ast.Call, ast.Attribute,
    ast.keyword, ast.Lambda, ast.Name, ast.Constant, ast.Tuple, ast.List, ast.Dict, ast.ListComp, ast.DictComp, ast.comprehension,
    ast.Subscript, ast.Slice, ast.Starred, ast.BinOp, ast.UnaryOp, ast.BoolOp, ast.Compare, ast.Load, ast.Store,
    ast.Add, ast.Sub, ast.Mult, ast.FloorDiv, ast.Mod, ast.USub, ast.Not, ast.And, ast.Or, ast.Eq, ast.NotEq, ast.Lt,
    ast.LtE, ast.Gt, ast.GtE, ast.Is, ast.IsNot, ast.In, ast.NotIn,
)
BARRED = {"register", "mro", "elements", "open", "input", "law", "type", "typing", "enum", "Generic", "Protocol"}


@lru_cache(None)
def files():
    return {path.stem: (path.read_text("ascii"), ast.parse(path.read_text("ascii"))) for path in PACKAGE.glob("*.py")}


def defined(tree):
    """The names that a file binds at its top, imports left out."""
    names = set()
    for node in tree.body:
        if isinstance(node, (ast.FunctionDef, ast.ClassDef)):
            names.add(node.name)
        if isinstance(node, ast.Assign):
            names.update(target.id for target in node.targets)
    return names


def imported(tree):
    return {alias.name: node.module for node in tree.body if isinstance(node, ast.ImportFrom) for alias in node.names}


def methods_of_all():
    """The methods that the package's own classes have."""
    kinds = [node for _, tree in files().values() for node in tree.body if isinstance(node, ast.ClassDef)]
    return {part.name for kind in kinds for part in kind.body if isinstance(part, ast.FunctionDef)}


def nodes(kind):
    return [(name, node) for name, (_, tree) in files().items() for node in ast.walk(tree) if isinstance(node, kind)]


class Language(unittest.TestCase):
    def test_the_folder_holds_nothing_else(self):
        names = [path.name for path in PACKAGE.iterdir() if path.name != "__pycache__"]
        self.assertIn("__init__.py", names)
        for name in names:
            self.assertRegex(name, r"^[a-z_]+\.py$")

    def test_lines(self):
        for name, (text, _) in files().items():
            self.assertTrue(all(" " <= sign <= "~" or sign == "\n" for sign in text), name)
            self.assertLess(text.count("\n"), 400, name)
            self.assertTrue(all(len(line) <= 120 for line in text.split("\n")), name)

    def test_functions_are_short(self):
        for name, node in nodes(ast.FunctionDef):
            self.assertLessEqual(node.end_lineno - node.lineno + 1, 40, (name, node.name))
            self.assertEqual([], node.decorator_list, (name, node.name))

    def test_only_plain_statements_and_expressions(self):
        for name, node in nodes(ast.AST):
            self.assertIsInstance(node, NODES, (name, getattr(node, "lineno", 0)))
            if isinstance(node, ast.Constant):
                self.assertNotIsInstance(node.value, (float, complex, bytes), (name, node.lineno))
            if isinstance(node, ast.Constant) and isinstance(node.value, str):
                self.assertNotIn("%", node.value, (name, node.lineno))
            if isinstance(node, ast.Raise):
                self.assertIsInstance(node.exc, ast.Call, (name, node.lineno))

    def test_imports(self):
        for name, (_, tree) in files().items():
            for told, module in imported(tree).items():
                if module in LIBRARY:
                    self.assertIn(told, LIBRARY[module], name)
                else:
                    package, file = module.split(".")
                    self.assertEqual("logsapart", package)
                    self.assertIn(told, defined(files()[file][1]), (name, module))
        self.assertEqual([], nodes(ast.Import))

    def test_no_file_imports_itself_by_others(self):
        uses = {name: {m.split(".")[1] for m in imported(tree).values() if "." in m} for name, (_, tree) in files().items()}
        while uses:
            free = [name for name in uses if not uses[name] & set(uses)]
            self.assertTrue(free, uses)
            uses = {name: used for name, used in uses.items() if name not in free}

    def test_what_is_imported_is_used(self):
        for name, (_, tree) in files().items():
            used = {node.id for node in ast.walk(tree) if isinstance(node, ast.Name)}
            self.assertEqual(set(), set(imported(tree)) - used, name)

    def test_names(self):
        for name, (_, tree) in files().items():
            top = defined(tree) | set(imported(tree))
            for node in ast.walk(tree):
                if isinstance(node, ast.arg):
                    bound = node.arg
                elif isinstance(node, ast.Name) and isinstance(node.ctx, ast.Store) and node.col_offset > 0:
                    bound = node.id
                else:
                    continue
                self.assertNotIn(bound, top | BUILTINS | BARRED, (name, node.lineno))

    def test_calls(self):
        for name, (_, tree) in files().items():
            top = defined(tree) | set(imported(tree))
            methods = METHODS | methods_of_all()
            # A function may be passed and called; no parameter has the name of a builtin (above).
            top = top | {node.arg for node in ast.walk(tree) if isinstance(node, ast.arg)}
            for node in ast.walk(tree):
                if isinstance(node, ast.Call) and isinstance(node.func, ast.Name):
                    self.assertIn(node.func.id, top | CALLED, (name, node.lineno))
                elif isinstance(node, ast.Call):
                    self.assertIn(node.func.attr, methods, (name, node.lineno))
                elif isinstance(node, ast.Name) and node.id in BUILTINS:
                    self.assertIn(node.id, NAMED, (name, node.lineno))

    def test_sets_are_only_sorted(self):
        for name, node in nodes(ast.Call):
            inner = [part for part in node.args if isinstance(part, ast.Call) and isinstance(part.func, ast.Name)]
            for part in inner:
                if part.func.id == "set":
                    self.assertEqual("sorted", getattr(node.func, "id", None), (name, node.lineno))
        called = sum(isinstance(node.func, ast.Name) and node.func.id == "set" for _, node in nodes(ast.Call))
        inside = sum(
            isinstance(part, ast.Call) and isinstance(part.func, ast.Name) and part.func.id == "set"
            for _, node in nodes(ast.Call) for part in node.args
        )
        self.assertEqual(called, inside)

    def test_classes_and_names(self):
        for name, node in nodes(ast.ClassDef):
            told = [part.name for part in node.body if isinstance(part, ast.FunctionDef)]
            self.assertEqual(len(told), len(set(told)), (name, node.name))
            stored = {
                part.attr for part in ast.walk(node) if isinstance(part, ast.Attribute) and isinstance(part.ctx, ast.Store)
            }
            self.assertEqual(set(), stored & set(told), (name, node.name))

    def test_loops_leave_alone_what_they_go_over(self):
        for name, node in nodes(ast.For):
            over = {part.id for part in ast.walk(node.iter) if isinstance(part, ast.Name)}
            for part in ast.walk(ast.Module(node.body, [])):
                if isinstance(part, ast.Call) and isinstance(part.func, ast.Attribute) and part.func.attr in METHODS:
                    held = part.func.value
                    if part.func.attr in ("append", "pop") and isinstance(held, ast.Name):
                        self.assertNotIn(held.id, over, (name, part.lineno))


if __name__ == "__main__":
    unittest.main()
