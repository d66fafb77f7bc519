"""The rules of the language that can be looked up in the files of the package."""

import ast
import pathlib
import re
import unittest

PACKAGE = pathlib.Path(__file__).resolve().parent.parent / "keptreadings"
BUILTINS = set((
    "len range enumerate zip min max sum abs sorted reversed int str bool list tuple dict set isinstance ord repr any all divmod "
    "Exception ValueError TypeError KeyError IndexError LookupError ZeroDivisionError NotImplementedError"
).split())
METHODS = set((
    "append clear copy count endswith extend find get index insert isalnum isalpha isdigit islower isspace isupper items join keys "
    "ljust lower lstrip partition pop remove replace reverse rfind rjust rpartition rsplit rstrip setdefault split splitlines "
    "startswith strip update upper values zfill bit_length add discard isascii"
).split())
WORDS = ("register mro elements open input law exit type eval exec id dir vars compile hash map next filter iter format round slice "
         "globals locals super typing enum dataclass overload contextmanager namedtuple _wall").split()


def files():
    return {path.name: path.read_text(encoding="ascii") for path in sorted(PACKAGE.iterdir()) if path.name != "__pycache__"}


def trees():
    return {name: ast.parse(text) for name, text in files().items()}


def defined(tree):
    """The names that a file binds at module level, imports apart."""
    found = []
    for node in tree.body:
        if isinstance(node, (ast.FunctionDef, ast.ClassDef)):
            found.append(node.name)
        if isinstance(node, ast.Assign):
            found.append(node.targets[0].id)
    return found


def imported(tree):
    return [(node.module, alias.name) for node in tree.body if isinstance(node, ast.ImportFrom) for alias in node.names]


class LanguageTest(unittest.TestCase):

    def test_files_and_lines(self):
        for name, text in files().items():
            self.assertRegex(name, r"\A[a-z_]+\.py\Z")
            lines = text.split("\n")
            self.assertLess(len(lines), 400, name)
            self.assertTrue(text.endswith("\n"))
            for line in lines:
                self.assertLessEqual(len(line), 120, name)
                self.assertTrue(all(" " <= sign <= "~" for sign in line), name)

    def test_functions_are_small(self):
        for name, tree in trees().items():
            for node in ast.walk(tree):
                if isinstance(node, ast.FunctionDef):
                    self.assertLessEqual(node.end_lineno - node.lineno + 1, 40, (name, node.name))
                    self.assertEqual(node.decorator_list, [])

    def test_imports(self):
        known = {"keptreadings." + name[:-3]: defined(tree) for name, tree in trees().items()}
        for name, tree in trees().items():
            bound = defined(tree) + [word for _, word in imported(tree)]
            self.assertEqual(len(bound), len(set(bound)), name)
            for module, word in imported(tree):
                self.assertIn(word, known[module], (name, module))
            for node in ast.walk(tree):
                self.assertNotIsInstance(node, ast.Import)

    def test_no_two_files_import_from_each_other(self):
        rests_on = {"keptreadings." + name[:-3]: {module for module, _ in imported(tree)} for name, tree in trees().items()}
        while rests_on:
            free = [module for module, others in rests_on.items() if not others & set(rests_on)]
            self.assertTrue(free, rests_on)
            rests_on = {module: others for module, others in rests_on.items() if module not in free}

    def test_statements_and_expressions(self):
        barred = (
            ast.Global, ast.Nonlocal, ast.AsyncFunctionDef, ast.Await, ast.Yield, ast.YieldFrom, ast.GeneratorExp, ast.SetComp,
            ast.Match, ast.Div, ast.Pow, ast.NamedExpr, ast.Starred, ast.AnnAssign, ast.Delete, ast.Import,
        )
        for name, tree in trees().items():
            for node in ast.walk(tree):
                self.assertNotIsInstance(node, barred, (name, getattr(node, "lineno", 0)))
                if isinstance(node, ast.Constant):
                    self.assertNotIsInstance(node.value, (float, bytes))
                if isinstance(node, ast.Compare):
                    for sign, other in zip(node.ops, node.comparators):
                        if isinstance(sign, (ast.Is, ast.IsNot)):
                            self.assertIn(ast.unparse(other), ("None", "True", "False"), name)

    def test_blocks_and_handlers(self):
        # A block is a call of trial; a handler names one error of the package, and is the only one for it.
        known = defined(trees()["errors.py"])
        for name, tree in trees().items():
            for node in ast.walk(tree):
                if isinstance(node, (ast.With, ast.Try)):
                    self.assertIn(name, ("workshop.py", "scripts.py"))
                if isinstance(node, ast.With):
                    self.assertEqual([(ast.unparse(item.context_expr)[-8:], item.optional_vars) for item in node.items], [(".trial()", None)])
                if isinstance(node, ast.Try):
                    self.assertEqual((node.orelse, node.finalbody), ([], []))
                    names = [ast.unparse(handler.type) for handler in node.handlers if handler.name is None]
                    self.assertEqual(len(set(names)), len(node.handlers))
                    self.assertLessEqual(set(names), set(known))

    def test_the_end_of_a_block(self):
        rows = [part for part in ast.walk(trees()["workshop.py"]) if isinstance(part, ast.FunctionDef) and part.name == "__exit__"]
        self.assertEqual(len(rows), 1)
        self.assertEqual([argument.arg for argument in rows[0].args.args], ["self", "kind", "value", "trace"])
        for statement in rows[0].body:
            self.assertRegex(ast.unparse(statement), r"\A(shop = self\.shop|shop\.\w+ = self\.\w+)\Z")

    def test_module_level(self):
        for name, tree in trees().items():
            for node in tree.body:
                is_docstring = node is tree.body[0] and isinstance(node, ast.Expr)
                plain = isinstance(node, (ast.ImportFrom, ast.FunctionDef, ast.ClassDef, ast.Assign))
                self.assertTrue(is_docstring or plain, (name, node.lineno))

    def test_names(self):
        for name, tree in trees().items():
            own = defined(tree) + [word for _, word in imported(tree)]
            classes_and_imports = [node.name for node in tree.body if isinstance(node, ast.ClassDef)]
            classes_and_imports += [word for _, word in imported(tree)]
            for node in ast.walk(tree):
                if isinstance(node, ast.Name) and isinstance(node.ctx, ast.Store) and node.id not in defined(tree):
                    self.assertNotIn(node.id, classes_and_imports, name)
                    self.assertNotIn(node.id, WORDS + sorted(BUILTINS), name)
                if isinstance(node, ast.arg):
                    self.assertNotIn(node.arg, classes_and_imports + WORDS + sorted(BUILTINS), name)
                if isinstance(node, ast.Call) and isinstance(node.func, ast.Name):
                    self.assertIn(node.func.id, own + sorted(BUILTINS) + ["action"], (name, node.lineno))
                if isinstance(node, (ast.Attribute, ast.FunctionDef)):
                    word = node.attr if isinstance(node, ast.Attribute) else node.name
                    self.assertNotIn(word, WORDS, name)

    def test_methods(self):
        methods = {node.name for tree in trees().values() for part in ast.walk(tree) if isinstance(part, ast.ClassDef)
                   for node in part.body if isinstance(node, ast.FunctionDef)}
        for name, tree in trees().items():
            for node in ast.walk(tree):
                if isinstance(node, ast.Call) and isinstance(node.func, ast.Attribute):
                    self.assertIn(node.func.attr, METHODS | methods, (name, node.lineno))

    def test_strings(self):
        for name, tree in trees().items():
            for node in ast.walk(tree):
                if isinstance(node, ast.Constant) and isinstance(node.value, str):
                    self.assertNotIn("%", node.value, name)
                    self.assertFalse(node.value.endswith("._") or node.value.startswith("__"), name)
            code = re.sub(r'""".*?"""|#[^\n]*', "", files()[name], flags=re.DOTALL)
            for word in WORDS[-9:]:
                self.assertNotIn(word, re.findall(r"\w+", code), name)

    def test_sets_stand_only_where_they_are_used_up(self):
        for name, tree in trees().items():
            above = {child: node for node in ast.walk(tree) for child in ast.iter_child_nodes(node)}
            for node in ast.walk(tree):
                self.assertNotIsInstance(node, ast.Set)
                if isinstance(node, ast.Call) and isinstance(node.func, ast.Name) and node.func.id == "set":
                    user = above[node]
                    self.assertIsInstance(user, ast.Call, (name, node.lineno))
                    self.assertIn(user.func.id, ("sorted", "len"), (name, node.lineno))
                    self.assertEqual(user.keywords, [])
