"""A part of ../shared/LANGUAGE.md that a test can see; it allows less than the rules do."""

import ast
import builtins
import re
import unittest
from pathlib import Path

PACKAGE = Path(__file__).resolve().parent.parent / "surepatterns"
FILES = sorted(PACKAGE.glob("*.py"))

STATEMENTS = (
    ast.Module, ast.FunctionDef, ast.ClassDef, ast.Return, ast.Assign, ast.AugAssign, ast.For, ast.While, ast.If,
    ast.Raise, ast.Try, ast.ExceptHandler, ast.Delete, ast.ImportFrom, ast.Expr, ast.Break, ast.Continue, ast.Pass,
    ast.arguments, ast.arg, ast.alias,
)
EXPRESSIONS = (
    ast.BoolOp, ast.BinOp, ast.UnaryOp, ast.IfExp, ast.Dict, ast.List, ast.Tuple, ast.ListComp, ast.DictComp,
    ast.comprehension, ast.Compare, ast.Call, ast.keyword, ast.JoinedStr, ast.FormattedValue, ast.Constant,
    ast.Attribute, ast.Subscript, ast.Slice, ast.Name, ast.Lambda, ast.Yield, ast.YieldFrom,
)
SIGNS = (ast.expr_context, ast.boolop, ast.operator, ast.unaryop, ast.cmpop)

BUILTINS = (
    "len range enumerate zip min max sum abs sorted reversed int str bool list tuple dict set isinstance ord repr any"
    " all divmod super ValueError TypeError KeyError IndexError"
).split()
METHODS = (
    "append bit_length clear copy count endswith extend find get index insert isalpha isdigit islower isupper items join keys"
    " lower partition pop remove replace reverse rfind rpartition setdefault split startswith strip update upper values"
).split()
UNUSED_WORDS = re.compile(r"\b(type|typing|enum|Enum|Generic|Protocol|ABC|namedtuple|register|open|input|law|mro)\b")


def trees():
    return [(path, ast.parse(path.read_text())) for path in FILES]


def nodes(kind):
    return [(path, node) for path, tree in trees() for node in ast.walk(tree) if isinstance(node, kind)]


class Language(unittest.TestCase):
    def test_the_folder_has_only_files_of_the_language(self):
        names = [path.name for path in PACKAGE.iterdir() if path.name != "__pycache__"]
        self.assertEqual(sorted(names), [path.name for path in FILES])
        self.assertIn("__init__.py", names)
        for name in names:
            self.assertRegex(name, r"\A[a-z_]+\.py\Z")

    def test_sizes_and_characters(self):
        for path in FILES:
            text = path.read_text()
            self.assertLessEqual(len(text.split("\n")), 399, path)
            self.assertEqual(re.findall(r"[^\n -~]", text), [], path)
            self.assertLessEqual(max([len(line) for line in text.split("\n")]), 120, path)
        for path, node in nodes(ast.FunctionDef):
            self.assertLessEqual(node.end_lineno - node.lineno + 1, 40, (path, node.name))

    def test_only_these_kinds_of_code(self):
        for path, node in nodes(ast.AST):
            self.assertIsInstance(node, STATEMENTS + EXPRESSIONS + SIGNS, (path, ast.dump(node)))
            self.assertNotIsInstance(node, (ast.Div, ast.MatMult), path)
            self.assertEqual(getattr(node, "decorator_list", []), [], path)

    def test_imports(self):
        for path, node in nodes(ast.ImportFrom):
            self.assertEqual(node.level, 0, path)
            self.assertRegex(node.module, r"\Asurepatterns\.[a-z]+\Z")
            defined = [
                name for each in ast.parse((PACKAGE / (node.module.split(".")[1] + ".py")).read_text()).body
                for name in bound_names(each)
            ]
            for alias in node.names:
                self.assertIn(alias.name, defined, path)
                self.assertIsNone(alias.asname, path)

    def test_no_two_files_import_from_each_other(self):
        imports = {path.stem: [] for path in FILES}
        for path, node in nodes(ast.ImportFrom):
            imports[path.stem].append(node.module.split(".")[1])
        while imports:
            free = [name for name in imports if not set(imports[name]) & set(imports)]
            self.assertNotEqual(free, [])
            imports = {name: imports[name] for name in imports if name not in free}

    def test_names(self):
        known = [name for name in dir(builtins) if not name.startswith("_")]
        for path, node in nodes(ast.Name):
            if node.id in known:
                self.assertIn(node.id, BUILTINS, path)
                self.assertIsInstance(node.ctx, ast.Load, path)
            if node.id == "_":
                self.assertIsInstance(node.ctx, ast.Store, path)
        for path, node in nodes((ast.FunctionDef, ast.ClassDef, ast.arg)):
            self.assertNotIn(node.arg if isinstance(node, ast.arg) else node.name, known, path)

    def test_methods_of_builtin_values(self):
        own = [node.name for _, node in nodes(ast.FunctionDef)] + ["__init__"]
        for path, node in nodes(ast.Call):
            if isinstance(node.func, ast.Attribute):
                self.assertIn(node.func.attr, METHODS + own, path)

    def test_only_own_errors_are_caught(self):
        own = [node.name for path, node in nodes(ast.ClassDef) if path.stem in ("errors", "wrongs")]
        for path, node in nodes(ast.ExceptHandler):
            self.assertIsInstance(node.type, ast.Name, path)
            self.assertIn(node.type.id, own, path)

    def test_generators(self):
        """Each yield is a statement of its own, and each call of a generator is iterated at once."""
        names = [
            node.name for _, node in nodes(ast.FunctionDef)
            if any([isinstance(each, (ast.Yield, ast.YieldFrom)) for each in ast.walk(node)])
        ]
        every = [node.name for _, node in nodes(ast.FunctionDef)]
        self.assertEqual([name for name in names if every.count(name) > 1], [])
        iterated = [node.iter for _, node in nodes((ast.For, ast.comprehension))]
        iterated += [node.value for _, node in nodes(ast.YieldFrom)]
        statements = [node.value for _, node in nodes(ast.Expr)]
        for path, tree in trees():
            for node in ast.walk(tree):
                if isinstance(node, (ast.Yield, ast.YieldFrom)):
                    self.assertIn(ast.dump(node), [ast.dump(each) for each in statements], path)
                if isinstance(node, ast.Call) and isinstance(node.func, ast.Attribute) and node.func.attr in names:
                    self.assertIn(ast.dump(node), [ast.dump(each) for each in iterated], path)
                if isinstance(node, ast.Name):
                    self.assertNotIn(node.id, names, path)

    def test_methods_and_attributes_have_different_names(self):
        methods = [each.name for _, node in nodes(ast.ClassDef) for each in node.body if isinstance(each, ast.FunctionDef)]
        for path, node in nodes(ast.Attribute):
            if isinstance(node.ctx, ast.Store):
                self.assertNotIn(node.attr, methods, path)

    def test_exponents_are_literals(self):
        for path, node in nodes(ast.BinOp):
            if isinstance(node.op, ast.Pow):
                self.assertIsInstance(node.right, ast.Constant, path)

    def test_strings(self):
        for path, tree in trees():
            notes = [
                node.body[0].value for node in ast.walk(tree)
                if isinstance(node, (ast.Module, ast.ClassDef, ast.FunctionDef)) and ast.get_docstring(node)
            ]
            for node in ast.walk(tree):
                if isinstance(node, ast.Constant) and isinstance(node.value, str) and node not in notes:
                    self.assertNotIn("%", node.value, path)
                    self.assertIsNone(UNUSED_WORDS.search(node.value), path)

    def test_module_level(self):
        for path, tree in trees():
            for node in tree.body:
                kinds = (ast.Expr, ast.ImportFrom, ast.FunctionDef, ast.ClassDef, ast.Assign)
                self.assertIsInstance(node, kinds, path)
            names = [name for node in tree.body for name in bound_names(node)]
            self.assertEqual(len(names), len(set(names)), path)

    def test_sets_are_not_kept(self):
        for path, node in nodes(ast.Assign):
            if isinstance(node.value, ast.Call) and isinstance(node.value.func, ast.Name):
                self.assertNotIn(node.value.func.id, ("set", "zip", "enumerate", "reversed"), path)


def bound_names(node):
    """The names that a statement at module level defines or imports."""
    if isinstance(node, (ast.FunctionDef, ast.ClassDef)):
        return [node.name]
    if isinstance(node, ast.Assign):
        return [target.id for target in node.targets]
    if isinstance(node, ast.ImportFrom):
        return [alias.name for alias in node.names]
    return []
