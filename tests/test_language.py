"""Rules of the language in which the package is written, as far as the code shows them."""

import ast
import builtins
import pathlib
import re
import tokenize
import unittest
import warnings

FOLDER = pathlib.Path(__file__).resolve().parent.parent / "hermitcell"
FILES = sorted(path for path in FOLDER.rglob("*") if "__pycache__" not in path.parts and path.is_file())

BUILTINS = """len range enumerate zip min max sum abs sorted reversed int str bool bytes list tuple dict set isinstance ord
repr any all divmod type super Exception ValueError TypeError KeyError IndexError LookupError ZeroDivisionError
RuntimeError NotImplementedError StopIteration NotImplemented property staticmethod classmethod""".split()
METHODS = """append clear copy count endswith extend find get index insert isalnum isalpha isdigit islower isspace isupper
items join keys ljust lower lstrip partition pop remove replace reverse rfind rjust rpartition rsplit rstrip setdefault
split splitlines startswith strip update upper values zfill bit_length""".split()
OWN_DOUBLE = ("__init__", "__eq__", "__repr__", "__str__", "__len__", "__call__")
NOT_USED = """mro elements open input law version_info with_traceback add_note compile eval exec exit globals help
id locals os quit vars sys dir delattr getattr setattr hasattr""".split()
NOT_WRITTEN = """typing enum Enum Generic Protocol ABC namedtuple dataclass overload contextmanager _wall _WallAttr""".split()
STATEMENTS = (
    ast.FunctionDef, ast.ClassDef, ast.Assign, ast.AugAssign, ast.If, ast.While, ast.For, ast.Return, ast.Break,
    ast.Continue, ast.Pass, ast.Raise, ast.Assert, ast.Delete, ast.ImportFrom, ast.Expr, ast.Try,
)
TYPES = ("int", "str", "bool", "list", "tuple", "dict", "set")

INTERFACE = {
    "Atom": "__init__ __eq__",
    "Knowledge": "__init__ take can_make atoms copy",
    "Memory": "__init__ access log status words presence rows walks dropped tickets taken copy",
    "Core": "__init__ request step give_up answer copied",
    "Call": "__init__ step answer state copy",
    "Paging": "__init__ step answer state copy",
    "Verifier": "__init__ challenge is_open open_ones take",
    "Enter": "__init__ step interrupt is_running answer steps realm core state copy",
    "Move": "__init__ step answer state copy",
    "World": "__init__ act view memory call knows known copy copy_with",
    "Net": "__init__ act world view copy",
    "Plain": "__init__ many enter need make pages core",
    "Watch": "__init__ act world many realm descriptor cores tells makes measure start copy",
    "Twins": "__init__ act watches parted fault",
    "WeakWorld": "__init__ copy_with",
}


# The trees are read once, so that a node is the same one wherever a test meets it.
TREES = [(path, ast.parse(path.read_text())) for path in FILES]


def nodes(*kinds):
    return [(path, node) for path, tree in TREES for node in ast.walk(tree) if isinstance(node, kinds)]


class LanguageTest(unittest.TestCase):
    def none(self, found):
        self.assertEqual([f"{path.name}:{getattr(node, 'lineno', 0)}" for path, node in found], [])

    def test_files(self):
        self.assertTrue(FILES)
        for path in FILES:
            self.assertRegex(path.name, r"\A[a-z_0-9]+\.py\Z")
            lines = path.read_text().splitlines()
            self.assertLessEqual(len(lines), 399, path.name)
            self.assertLessEqual(max(map(len, lines)), 120, path.name)
            self.assertRegex(path.read_bytes(), rb"\A[ -~\n]*\Z")

    def test_no_warnings(self):
        for path in FILES:
            with warnings.catch_warnings():
                warnings.simplefilter("error")
                compile(path.read_text(), str(path), "exec")

    def test_functions(self):
        for path, node in nodes(ast.FunctionDef):
            self.assertLessEqual(node.end_lineno - node.lineno + 1, 40, f"{path.name}: {node.name}")
            self.assertEqual(node.decorator_list, [], node.name)
            if node.name.startswith("__"):
                self.assertIn(node.name, OWN_DOUBLE)

    def test_classes(self):
        self.none([row for row in nodes(ast.ClassDef) if row[1].decorator_list])

    def test_imports(self):
        imported = {path.stem: [] for path in FILES}
        for path, tree in TREES:
            defined = {}
            for node in tree.body:
                if isinstance(node, ast.ImportFrom):
                    self.assertEqual(node.level, 0)
                    self.assertTrue(node.module.startswith("hermitcell."), path.name)
                    imported[path.stem].append(node.module.split(".")[1])
                    source = ast.parse((FOLDER / (node.module.split(".")[1] + ".py")).read_text())
                    names = [n.name for n in source.body if isinstance(n, (ast.FunctionDef, ast.ClassDef))]
                    names += [n.targets[0].id for n in source.body if isinstance(n, ast.Assign)]
                    for alias in node.names:
                        self.assertIn(alias.name, names)
                        self.assertNotIn(alias.name, defined)
                        defined[alias.name] = True
                        used = [n for n in ast.walk(tree) if isinstance(n, ast.Name) and n.id == alias.name]
                        self.assertTrue(used, f"{path.name}: {alias.name}")
        while imported:
            free = [name for name in imported if not imported[name]]
            self.assertTrue(free, "files import from each other")
            imported = {
                name: [other for other in others if other not in free]
                for name, others in imported.items() if name not in free
            }

    def test_module_level(self):
        for path, tree in TREES:
            names = []
            for at, node in enumerate(tree.body):
                is_docstring = at == 0 and isinstance(node, ast.Expr) and isinstance(node.value, ast.Constant)
                kinds = (ast.ImportFrom, ast.FunctionDef, ast.ClassDef, ast.Assign)
                self.assertTrue(is_docstring or isinstance(node, kinds), f"{path.name}:{node.lineno}")
                if isinstance(node, ast.Assign):
                    self.assertEqual(len(node.targets), 1)
                    names.append(node.targets[0].id)
                elif isinstance(node, (ast.FunctionDef, ast.ClassDef)):
                    names.append(node.name)
            self.assertEqual(len(names), len(set(names)), path.name)

    def test_statements(self):
        self.none([row for row in nodes(ast.stmt) if not isinstance(row[1], STATEMENTS)])
        self.none(nodes(ast.NamedExpr, ast.GeneratorExp, ast.Set, ast.SetComp, ast.Yield, ast.YieldFrom, ast.Await))
        self.none(nodes(ast.Div))
        self.none([row for row in nodes(ast.Constant) if isinstance(row[1].value, (float, complex))])

    def test_identity(self):
        for path, node in nodes(ast.Compare):
            for operator, side in zip(node.ops, node.comparators):
                if isinstance(operator, (ast.Is, ast.IsNot)):
                    is_kind = isinstance(node.left, ast.Call) and isinstance(node.left.func, ast.Name)
                    is_kind = is_kind and node.left.func.id == "type"
                    is_plain = isinstance(side, ast.Constant) and any(side.value is one for one in (None, True, False))
                    is_plain = is_plain or isinstance(node.left, ast.Name) and node.left.id == "self"
                    self.assertTrue(is_plain or is_kind and isinstance(side, ast.Name), f"{path.name}:{node.lineno}")

    def test_kinds_are_asked_by_names(self):
        classes = [node.name for _, node in nodes(ast.ClassDef)]
        asked = [node.left for _, node in nodes(ast.Compare) if isinstance(node.left, ast.Call)]
        for path, node in nodes(ast.Call):
            if isinstance(node.func, ast.Name) and node.func.id == "type":
                self.assertIn(node, asked, f"{path.name}:{node.lineno}")
        for path, node in nodes(ast.Compare):
            if node.left in asked and isinstance(node.left.func, ast.Name) and node.left.func.id == "type":
                self.assertIn(node.comparators[0].id, (*TYPES, *classes), f"{path.name}:{node.lineno}")

    def test_builtins(self):
        known = [name for name in dir(builtins) if not name.startswith("_")]
        for path, node in nodes(ast.Name):
            if node.id in known:
                self.assertIn(node.id, BUILTINS, f"{path.name}:{node.lineno}")
                self.assertIsInstance(node.ctx, ast.Load, f"{path.name}:{node.lineno}")
        for path, node in nodes(ast.arg):
            self.assertNotIn(node.arg, known, f"{path.name}:{node.lineno}")

    def test_local_names(self):
        for path, tree in TREES:
            barred = [node.name for node in tree.body if isinstance(node, ast.ClassDef)]
            barred += [alias.name for node in tree.body if isinstance(node, ast.ImportFrom) for alias in node.names]
            for node in ast.walk(tree):
                if isinstance(node, ast.arg):
                    self.assertNotIn(node.arg, barred, f"{path.name}:{node.lineno}")
                if isinstance(node, ast.Name) and isinstance(node.ctx, ast.Store):
                    self.assertNotIn(node.id, barred, f"{path.name}:{node.lineno}")

    def test_methods(self):
        own = [node.name for _, node in nodes(ast.FunctionDef)]
        for path, node in nodes(ast.Call):
            if isinstance(node.func, ast.Attribute):
                self.assertIn(node.func.attr, METHODS + own, f"{path.name}:{node.lineno}")

    def test_attributes_are_not_methods(self):
        for path, node in nodes(ast.ClassDef):
            methods = [each.name for each in node.body if isinstance(each, ast.FunctionDef)]
            self.assertEqual(len(methods), len(set(methods)))
            for each in ast.walk(node):
                if isinstance(each, ast.Attribute) and isinstance(each.ctx, ast.Store):
                    self.assertNotIn(each.attr, methods, f"{path.name}:{each.lineno}")

    def test_no_attribute_of_a_class_is_a_method_of_another(self):
        methods = [each.name for _, node in nodes(ast.ClassDef) for each in node.body if isinstance(each, ast.FunctionDef)]
        for path, node in nodes(ast.Attribute):
            if isinstance(node.ctx, ast.Store):
                self.assertNotIn(node.attr, methods, f"{path.name}:{node.lineno}")

    def test_attributes_that_are_read(self):
        known = [node.attr for _, node in nodes(ast.Attribute) if isinstance(node.ctx, ast.Store)]
        called = [node.func for _, node in nodes(ast.Call)]
        for path, node in nodes(ast.Attribute):
            if isinstance(node.ctx, ast.Load) and node not in called:
                self.assertIn(node.attr, known, f"{path.name}:{node.lineno}")
        # Only own methods and those of builtin values are called off an object.
        for path, node in nodes(ast.Call):
            if isinstance(node.func, ast.Attribute):
                self.assertNotIn(node.func.attr, known, f"{path.name}:{node.lineno}")

    def test_names_that_are_no_names_of_functions(self):
        for path, node in nodes(ast.FunctionDef, ast.ClassDef):
            self.assertNotEqual(node.name, "register", f"{path.name}:{node.lineno}")

    def test_module_level_names_stay_as_they_are(self):
        for path, tree in TREES:
            kept = [
                node.targets[0].id for node in tree.body
                if isinstance(node, ast.Assign) and isinstance(node.value, (ast.Dict, ast.List))
            ]
            for node in ast.walk(tree):
                for child in ast.iter_child_nodes(node):
                    if isinstance(child, ast.Name) and child.id in kept and isinstance(child.ctx, ast.Load):
                        # A dict is read on the spot: an item, .get(..) or `in`.
                        self.assertIsInstance(node, (ast.Subscript, ast.Attribute, ast.Compare), f"{path.name}:{child.lineno}")
                        if isinstance(node, ast.Attribute):
                            self.assertIn(node.attr, ("get", "items", "keys", "values"), f"{path.name}:{child.lineno}")

    def test_no_list_is_sorted_in_its_place(self):
        for path, node in nodes(ast.Attribute):
            self.assertNotEqual(node.attr, "sort", f"{path.name}:{node.lineno}")

    def test_interface_methods_stand_in_their_classes(self):
        defined = {node.name: [each.name for each in node.body if isinstance(each, ast.FunctionDef)]
                   for _, node in nodes(ast.ClassDef)}
        for name, methods in INTERFACE.items():
            for method in methods.split():
                self.assertIn(method, defined[name], name)

    def test_words_that_are_not_used(self):
        for path in FILES:
            with open(path, "rb") as lines:
                for token in tokenize.tokenize(lines.readline):
                    if token.type == tokenize.NAME:
                        self.assertNotIn(token.string, NOT_USED, f"{path.name}:{token.start[0]}")
            for word in NOT_WRITTEN:
                self.assertIsNone(re.search(rf"\b{word}\b", path.read_text()), f"{path.name}: {word}")

    def test_strings(self):
        for path in FILES:
            with open(path, "rb") as lines:
                for token in tokenize.tokenize(lines.readline):
                    if token.type == tokenize.STRING and not token.string.startswith('"""'):
                        self.assertNotIn("%", token.string, f"{path.name}:{token.start[0]}")
                        self.assertIsNone(re.search(r"\\[^nt\\'\"]", token.string), f"{path.name}:{token.start[0]}")

    def test_errors(self):
        raised = [node.exc for _, node in nodes(ast.Raise) if node.exc is not None]
        for exc in raised:
            self.assertIsInstance(exc, ast.Call)
            self.assertIsInstance(exc.func, ast.Name)
        errors = [
            node.name for _, node in nodes(ast.ClassDef)
            if [base.id for base in node.bases] in (["HermitError"], ["ValueError"], ["Exception"])
        ]
        for path, node in nodes(ast.ExceptHandler):
            self.assertIsInstance(node.type, ast.Name, f"{path.name}:{node.lineno}")
            self.assertIn(node.type.id, errors, f"{path.name}:{node.lineno}")
