"""The program's form: the small part of Python that its files keep to."""

import ast
import builtins
import pathlib
import re
import unittest

PACKAGE = pathlib.Path(__file__).resolve().parent.parent / "unseenhands"

STATEMENTS = (ast.FunctionDef, ast.ClassDef, ast.Assign, ast.AugAssign, ast.If, ast.While, ast.For, ast.Return,
              ast.Break, ast.Continue, ast.Pass, ast.Raise, ast.Try, ast.Expr, ast.ImportFrom)
BANNED = (ast.Set, ast.SetComp, ast.DictComp, ast.GeneratorExp, ast.NamedExpr, ast.Starred, ast.Div, ast.Await,
          ast.Yield, ast.YieldFrom, ast.MatMult)
OWN_NAMES = set("""len range enumerate zip min max sum abs sorted reversed int str bool list tuple dict set frozenset
    isinstance ord repr any all divmod Exception ValueError TypeError KeyError IndexError LookupError
    ZeroDivisionError ArithmeticError OverflowError RuntimeError NotImplementedError AttributeError
    StopIteration""".split())
METHODS = set("""append clear copy count endswith extend find get index insert isalnum isalpha isdigit islower isspace
    isupper items join keys ljust lower lstrip partition pop remove replace reverse rfind rjust rpartition rsplit
    rstrip setdefault split splitlines startswith strip update upper values zfill bit_length""".split())
TAKEN = set()
for kind in (str, int, list, dict, set, bytes, tuple):
    TAKEN |= {name for name in vars(kind) if not name.startswith("__")}
WORDS = re.compile(r"\b(type|typing|typing_extensions|enum|Enum|IntEnum|StrEnum|Flag|IntFlag|Generic|Protocol|ABC|"
                   r"ABCMeta|namedtuple|NamedTuple|TypedDict|TYPE_CHECKING|abstractmethod)\b"
                   r"|dataclass|overload|contextmanager")
UNUSED = set("""register mro elements open input version_info with_traceback add_note attrgetter breakpoint builtins
    compile copyright credits delattr dir eval exec exit gc getattr globals hasattr help id importlib license locals
    methodcaller os quit setattr super vars sys format format_map""".split())
WALKED = ("zip", "enumerate", "reversed", "range")


class Form(unittest.TestCase):
    def setUp(self):
        self.files = {path: path.read_text(encoding="utf-8") for path in sorted(PACKAGE.glob("*.py"))}
        self.trees = {path: ast.parse(text) for path, text in self.files.items()}

    def nodes(self, *kinds):
        for path, tree in self.trees.items():
            for node in ast.walk(tree):
                if isinstance(node, kinds):
                    yield f"{path.name}:{getattr(node, 'lineno', 0)}", node

    def test_files(self):
        self.assertIn("table.py", [path.name for path in self.files])
        for path in PACKAGE.iterdir():
            if path.name != "__pycache__":
                self.assertRegex(path.name, r"^[a-z0-9_]+\.py$")
                self.assertNotIn(path.stem, dir(builtins))

    def test_signs_and_sizes(self):
        for path, text in self.files.items():
            self.assertRegex(text, r"\A[ -~\n]*\Z")
            lines = text.splitlines()
            self.assertLessEqual(len(lines), 400, path)
            self.assertLessEqual(max(len(line) for line in lines), 120, path)
            self.assertIsNone(WORDS.search(text), path)
        for where, node in self.nodes(ast.FunctionDef):
            self.assertLessEqual(node.end_lineno - node.lineno + 1, 40, where)

    def test_imports(self):
        drawn = {}
        for path, tree in self.trees.items():
            drawn[path.stem] = []
            for node in tree.body:
                if isinstance(node, ast.ImportFrom):
                    package, module = node.module.split(".")
                    self.assertEqual((package, node.level), ("unseenhands", 0))
                    drawn[path.stem].append(module)
                    bound = self.top_names(self.trees[PACKAGE / (module + ".py")])
                    for name in node.names:
                        self.assertIn(name.name, bound)
                        self.assertIsNone(name.asname)
        while drawn:
            ends = [module for module, others in drawn.items() if not others]
            self.assertTrue(ends, f"these draw from one another: {sorted(drawn)}")
            drawn = {module: [other for other in others if other not in ends]
                     for module, others in drawn.items() if module not in ends}

    def top_names(self, tree):
        names = []
        for node in tree.body:
            if isinstance(node, (ast.FunctionDef, ast.ClassDef)):
                names.append(node.name)
            elif isinstance(node, ast.Assign):
                names.append(node.targets[0].id)
        self.assertEqual(len(names), len(set(names)))
        return names

    def test_top_of_files(self):
        for path, tree in self.trees.items():
            self.top_names(tree)
            for node in tree.body[1:]:
                self.assertIsInstance(node, (ast.ImportFrom, ast.FunctionDef, ast.ClassDef, ast.Assign), path)
                if isinstance(node, ast.Assign):
                    self.assertFalse([part for part in ast.walk(node.value)
                                      if isinstance(part, (ast.BinOp, ast.Call, ast.Compare))], path)
            self.assertIsNotNone(ast.get_docstring(tree), path)

    def test_statements_and_expressions(self):
        for where, node in self.nodes(ast.stmt):
            self.assertIsInstance(node, STATEMENTS, where)
            self.assertFalse(isinstance(node, (ast.For, ast.While)) and node.orelse, where)
            self.assertFalse(isinstance(node, ast.Try) and node.finalbody, where)
            if isinstance(node, ast.Assign):
                self.assertEqual(len(node.targets), 1, where)
                self.assertNotIsInstance(node.targets[0], (ast.Tuple, ast.List), where)
        for path, tree in self.trees.items():
            for node in ast.walk(tree):
                if isinstance(node, ast.Expr) and node != tree.body[0]:
                    self.assertIsInstance(node.value, ast.Call, f"{path.name}:{node.lineno}")
        for where, node in self.nodes(*BANNED):
            self.fail(f"{where}: {node}")
        for where, node in self.nodes(ast.ListComp):
            self.assertEqual(len(node.generators), 1, where)
            self.assertLessEqual(len(node.generators[0].ifs), 1, where)
        for where, node in self.nodes(ast.Constant):
            self.assertNotIsInstance(node.value, (float, bytes, complex), where)
            self.assertFalse(isinstance(node.value, str) and "%" in node.value, where)
        for where, node in self.nodes(ast.Compare):
            for operator, right in zip(node.ops, node.comparators):
                if isinstance(operator, (ast.Is, ast.IsNot)):
                    self.assertIsInstance(right, ast.Constant, where)
        for where, node in self.nodes(ast.Pow):
            self.fail(where)

    def test_functions_and_classes(self):
        for where, node in self.nodes(ast.FunctionDef):
            self.assertFalse(node.decorator_list, where)
            self.assertIsNone(node.returns, where)
        for where, node in self.nodes(ast.arguments):
            self.assertFalse(node.vararg or node.kwarg or node.kwonlyargs or node.posonlyargs, where)
            self.assertFalse([one for one in node.args if one.annotation], where)
        for where, node in self.nodes(ast.ClassDef):
            self.assertFalse(node.decorator_list or node.keywords, where)
            self.assertLessEqual(len(node.bases), 1, where)
            for part in node.body:
                self.assertIsInstance(part, ast.FunctionDef, where)

    def test_names(self):
        for where, node in self.nodes(ast.Name, ast.arg, ast.FunctionDef, ast.ClassDef):
            name = getattr(node, "id", None) or getattr(node, "arg", None) or getattr(node, "name", None)
            if name != "__init__":
                self.assertRegex(name, r"^[A-Za-z][A-Za-z0-9_]*$", where)
            self.assertNotIn(name, UNUSED, where)
            if name in dir(builtins) and name != "__init__":
                self.assertIn(name, OWN_NAMES, where)
                self.assertTrue(isinstance(node, ast.Name) and isinstance(node.ctx, ast.Load), where)

    def test_locals_are_not_called_like_imports_and_classes(self):
        for path, tree in self.trees.items():
            taken = {node.name for node in tree.body if isinstance(node, ast.ClassDef)}
            taken |= {name.name for node in tree.body if isinstance(node, ast.ImportFrom) for name in node.names}
            for node in ast.walk(tree):
                if isinstance(node, ast.arg):
                    self.assertNotIn(node.arg, taken, f"{path.name}:{node.lineno}")
                elif isinstance(node, ast.Name) and isinstance(node.ctx, ast.Store):
                    self.assertNotIn(node.id, taken, f"{path.name}:{node.lineno}")

    def test_methods_and_values(self):
        methods = {part.name for where, node in self.nodes(ast.ClassDef) for part in node.body
                   if isinstance(part, ast.FunctionDef)}
        values = {node.attr for where, node in self.nodes(ast.Attribute) if isinstance(node.ctx, ast.Store)}
        self.assertFalse(methods & values)
        self.assertFalse((methods | values) & (TAKEN | UNUSED))
        for where, node in self.nodes(ast.Attribute):
            self.assertIn(node.attr, METHODS | methods | values, where)

    def test_walked_at_once(self):
        """What zip and its like give is never kept under a name."""
        for where, node in self.nodes(ast.Assign, ast.Return):
            value = node.value
            if isinstance(value, ast.Call) and isinstance(value.func, ast.Name):
                self.assertNotIn(value.func.id, WALKED + ("set", "frozenset"), where)
            if isinstance(value, ast.Call) and isinstance(value.func, ast.Attribute):
                self.assertNotIn(value.func.attr, ("items", "keys", "values"), where)

    def test_handlers(self):
        own = {node.name for where, node in self.nodes(ast.ClassDef)}
        for where, node in self.nodes(ast.ExceptHandler):
            self.assertIn(node.type.id, own, where)

    def test_keywords(self):
        for where, node in self.nodes(ast.Call):
            for keyword in node.keywords:
                self.assertIn((node.func.id, keyword.arg), [("sorted", "reverse"), ("sorted", "key")], where)


if __name__ == "__main__":
    unittest.main()
