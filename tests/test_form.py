"""The form of the package's files, as far as it can be looked at by simple means.

It bars what the language of the program leaves out: long lines, long
functions, long files, foreign signs, foreign imports, foreign builtins,
code at module level, names bound twice.
"""

import ast
import builtins
import os
import re
import unittest
import warnings

HERE = os.path.dirname(os.path.abspath(__file__))
PACKAGE = os.path.join(os.path.dirname(HERE), "strangemill")

BUILTINS = (
    "len range enumerate zip min max sum abs sorted reversed int str bool list tuple dict set isinstance ord repr "
    "any all divmod"
).split()

LIBRARY = ("heapq", "math", "itertools", "collections")

NEVER = ("register", "mro", "elements", "open", "input", "law", "version_info", "with_traceback", "add_note")

BARRED = (
    "typing|typing_extensions|enum|Enum|IntEnum|StrEnum|Flag|IntFlag|Generic|Protocol|ABC|ABCMeta|namedtuple|"
    "NamedTuple|TypedDict|TYPE_CHECKING|abstractmethod"
)

METHODS = (
    "append clear copy count endswith extend find get index insert items join keys pop remove replace reverse rfind "
    "setdefault split startswith strip update values zfill"
).split()

MODULE_LEVEL = (ast.Import, ast.ImportFrom, ast.FunctionDef, ast.ClassDef, ast.Assign)


def sources():
    for name in sorted(os.listdir(PACKAGE)):
        if name != "__pycache__":
            with open(os.path.join(PACKAGE, name), encoding="utf-8", newline="") as file:
                yield name, file.read()


def trees():
    for name, text in sources():
        yield name, ast.parse(text, name)


def nodes(*sorts):
    for name, tree in trees():
        for node in ast.walk(tree):
            if isinstance(node, sorts):
                yield f"{name}:{node.lineno}", node


class Form(unittest.TestCase):

    def test_files(self):
        for name, text in sources():
            self.assertRegex(name, r"^[a-z0-9_]+\.py$")
            self.assertLessEqual(len(text.splitlines()), 399, name)
            self.assertTrue(text.endswith("\n"), name)

    def test_lines(self):
        for name, text in sources():
            for at, line in enumerate(text.split("\n"), 1):
                self.assertLessEqual(len(line), 120, f"{name}:{at}")
                self.assertRegex(line, r"^[ -~]*$", f"{name}:{at}")
                self.assertEqual(line, line.rstrip(), f"{name}:{at}")
                self.assertNotRegex(line, rf"\b({BARRED})\b|dataclass|overload|contextmanager", f"{name}:{at}")
                self.assertIsNone(re.search(r"\btype\b(?!\()", line.split("#")[0].split('"""')[0]), f"{name}:{at}")

    def test_python_warns_of_nothing(self):
        with warnings.catch_warnings():
            warnings.simplefilter("error")
            for name, text in sources():
                compile(text, name, "exec")

    def test_imports(self):
        for where, node in nodes(ast.Import, ast.ImportFrom):
            self.assertIsInstance(node, ast.ImportFrom, where)
            self.assertEqual(node.level, 0, where)
            self.assertTrue(node.module.startswith("strangemill.") or node.module in LIBRARY, where)
            self.assertEqual([one.asname for one in node.names if one.asname or one.name == "*"], [], where)

    def test_imports_name_the_very_file_that_defines(self):
        bound = {name[:-3]: {node.name if hasattr(node, "name") else node.targets[0].id
                             for node in tree.body if isinstance(node, MODULE_LEVEL[2:])} for name, tree in trees()}
        for where, node in nodes(ast.ImportFrom):
            if node.module not in LIBRARY:
                for one in node.names:
                    self.assertIn(one.name, bound[node.module.split(".", 1)[1]], where)

    def test_module_level(self):
        for name, tree in trees():
            self.assertTrue(ast.get_docstring(tree), name)
            names = []
            for node in tree.body[1:]:
                self.assertIsInstance(node, MODULE_LEVEL, f"{name}:{node.lineno}")
                if isinstance(node, ast.ImportFrom):
                    names += [one.name for one in node.names]
                elif isinstance(node, ast.Assign):
                    self.assertIsInstance(node.targets[0], ast.Name, f"{name}:{node.lineno}")
                    names.append(node.targets[0].id)
                else:
                    names.append(node.name)
            self.assertEqual(len(names), len(set(names)), name)
            top = [node.targets[0] for node in tree.body if isinstance(node, ast.Assign)]
            local = [node.id for node in ast.walk(tree) if isinstance(node, ast.Name)
                     and isinstance(node.ctx, ast.Store) and node not in top]
            local += [node.arg for node in ast.walk(tree) if isinstance(node, ast.arg)]
            self.assertEqual([one for one in local if one in names], [], name)

    def test_functions(self):
        for where, node in nodes(ast.FunctionDef):
            self.assertLessEqual(node.end_lineno - node.lineno + 1, 40, where)
            self.assertTrue(node.name == "__init__" or ast.get_docstring(node), where)

    def test_builtins_and_names(self):
        every = dir(builtins)
        for where, node in nodes(ast.Name, ast.arg, ast.Attribute, ast.FunctionDef, ast.ClassDef):
            name = next(getattr(node, field) for field in ("id", "arg", "attr", "name") if hasattr(node, field))
            self.assertNotIn(name, NEVER, where)
            if isinstance(node, ast.Name) and isinstance(node.ctx, ast.Load):
                self.assertTrue(name not in every or name in BUILTINS or name == "ValueError", f"{where} {name}")
            elif not isinstance(node, ast.Attribute):
                self.assertNotIn(name, every, where)

    def test_expressions_and_statements(self):
        for where, node in nodes(
            ast.GeneratorExp, ast.Yield, ast.YieldFrom, ast.Lambda, ast.With, ast.Global, ast.Nonlocal, ast.Match, ast.Set,
            ast.SetComp, ast.NamedExpr, ast.AnnAssign,
        ):
            told = ast.unparse(node)
            # As it stands the package needs none of these but a set that is measured.
            self.assertTrue(told == "{part[0] for part in thing}", f"{where} {told}")
        for where, node in nodes(ast.FunctionDef, ast.ClassDef):
            self.assertEqual(node.decorator_list, [], where)
        for where, node in nodes(ast.Delete):
            self.assertTrue(all(isinstance(one, ast.Subscript) for one in node.targets), where)

    def test_only_own_errors_are_caught(self):
        own = [node.name for name, tree in trees() if name == "errors.py" for node in tree.body[1:]]
        for where, node in nodes(ast.Try):
            self.assertEqual(node.finalbody + node.orelse, [], where)
            for handler in node.handlers:
                caught = handler.type.elts if isinstance(handler.type, ast.Tuple) else [handler.type]
                self.assertEqual([one.id for one in caught if one.id not in own], [], where)
        for where, node in nodes(ast.Raise):
            self.assertIn(node.exc.func.id, own, where)

    def test_no_function_calls_with_more_than_is_plain(self):
        for where, node in nodes(ast.Call):
            for part in node.args:
                if isinstance(part, ast.Starred):
                    self.assertIsInstance(part.value, ast.Name, where)
            self.assertEqual([one for one in node.keywords if one.arg is None], [], where)

    def test_tables_of_functions_are_not_called_straight(self):
        for where, node in nodes(ast.Call):
            self.assertIsInstance(node.func, (ast.Name, ast.Attribute), where)

    def test_attributes_are_assigned_through_a_local_name(self):
        for where, node in nodes(ast.Attribute):
            if isinstance(node.ctx, ast.Store):
                self.assertIsInstance(node.value, ast.Name, where)

    def test_methods(self):
        own = {node.name for _, node in nodes(ast.FunctionDef)}
        for where, node in nodes(ast.Call):
            if isinstance(node.func, ast.Attribute):
                self.assertTrue(node.func.attr in METHODS or node.func.attr in own, f"{where} {node.func.attr}")
        held = {name for one in (str, int, list, dict, set, bytes, tuple) for name in dir(one)}
        stored = {node.attr for _, node in nodes(ast.Attribute) if isinstance(node.ctx, ast.Store)}
        for name in own | stored:
            self.assertTrue(name not in held or name in ("__init__", "__eq__", "__len__"), name)

    def test_no_name_is_a_method_and_an_attribute(self):
        stored = {node.attr for _, node in nodes(ast.Attribute) if isinstance(node.ctx, ast.Store)}
        for where, node in nodes(ast.ClassDef):
            methods = [one.name for one in node.body if isinstance(one, ast.FunctionDef)]
            self.assertEqual(len(methods), len(set(methods)), where)
            self.assertEqual([name for name in methods if name in stored], [], where)

    def test_no_two_files_import_from_each_other(self):
        leads = {name[:-3]: {node.module.split(".", 1)[1] for node in tree.body if isinstance(node, ast.ImportFrom)
                             and node.module.startswith("strangemill.")} for name, tree in trees()}
        for _ in leads:
            leads = {name: those.union(*(leads[one] for one in those)) for name, those in leads.items()}
        self.assertEqual([name for name, those in leads.items() if name in those], [])

    def test_no_values_of_other_kinds(self):
        for where, _ in nodes(ast.AsyncFunctionDef, ast.Await):
            self.fail(where)
        for where, node in nodes(ast.BinOp, ast.AugAssign):
            self.assertNotIsInstance(node.op, (ast.Div, ast.MatMult), where)
        for where, node in nodes(ast.Constant):
            self.assertNotIsInstance(node.value, (float, complex), where)
            if isinstance(node.value, str):
                self.assertNotIn("%", node.value, where)


if __name__ == "__main__":
    unittest.main()
