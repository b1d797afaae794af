"""Some rules of the language that a file can be asked for: sizes, signs, words, imports, names, refusals."""

import ast
import builtins
import pathlib
import re
import unittest

PACKAGE = pathlib.Path(__file__).resolve().parent.parent / "dodays"
FILES = {path.relative_to(PACKAGE).as_posix(): path.read_bytes().decode("utf-8")
         for path in sorted(PACKAGE.rglob("*.py"))}
BARRED = re.compile(r"\b(type|typing|typing_extensions|enum|Enum|IntEnum|StrEnum|Flag|IntFlag|Generic"
                    r"|Protocol|ABC|ABCMeta|namedtuple|NamedTuple|TypedDict|TYPE_CHECKING"
                    r"|abstractmethod)\b|dataclass|overload|contextmanager")
BUILTINS = set("len range enumerate zip min max sum abs sorted reversed int str bool bytes list tuple"
               " dict set frozenset isinstance ord repr any all divmod Exception ValueError TypeError"
               " KeyError IndexError LookupError ZeroDivisionError ArithmeticError OverflowError"
               " RuntimeError NotImplementedError AttributeError StopIteration NotImplemented".split())
METHODS = set("append clear copy count endswith extend find get index insert isalnum isalpha isdigit"
              " islower isspace isupper items join keys ljust lower lstrip partition pop remove replace"
              " reverse rfind rjust rpartition rsplit rstrip setdefault split splitlines startswith"
              " strip update upper values zfill bit_length add discard sort".split())


def bound_names(tree):
    """All names that a file binds anywhere."""
    names = set()
    for node in ast.walk(tree):
        if isinstance(node, (ast.FunctionDef, ast.ClassDef)):
            names.add(node.name)
        elif isinstance(node, ast.arg):
            names.add(node.arg)
        elif isinstance(node, ast.alias):
            names.add(node.asname or node.name)
        elif isinstance(node, ast.Name) and isinstance(node.ctx, ast.Store):
            names.add(node.id)
    return names


def defined_names(tree):
    """All names that a file defines itself at module level."""
    names = set()
    for node in tree.body:
        if isinstance(node, (ast.FunctionDef, ast.ClassDef)):
            names.add(node.name)
        elif isinstance(node, ast.Assign):
            names.update(target.id for target in node.targets)
    return names


def imports_of(tree):
    """Pairs of a file and a name that a file imports from it."""
    return [(node.module.removeprefix("dodays.") + ".py", alias.name)
            for node in tree.body if isinstance(node, ast.ImportFrom) for alias in node.names]


class LanguageTest(unittest.TestCase):
    def test_files_and_signs(self):
        self.assertIn("__init__.py", FILES)
        for file, text in FILES.items():
            with self.subTest(file=file):
                self.assertRegex(file, r"\A([a-z][a-z0-9_]*|__init__|__main__)\.py\Z")
                self.assertRegex(text, r"\A[\n -~]*\Z")
                self.assertIsNone(BARRED.search(text))

    def test_sizes(self):
        for file, text in FILES.items():
            lines = text.split("\n")
            with self.subTest(file=file):
                self.assertLessEqual(len(lines) - 1, 400)
                self.assertLessEqual(max(len(line) for line in lines), 120)
                for node in ast.walk(ast.parse(text)):
                    if isinstance(node, ast.FunctionDef):
                        self.assertLessEqual(node.end_lineno - node.lineno + 1, 40, node.name)

    def test_imports(self):
        for file, text in FILES.items():
            tree = ast.parse(text)
            for node in ast.walk(tree):
                with self.subTest(file=file):
                    self.assertNotIsInstance(node, ast.Import)
                    if isinstance(node, ast.ImportFrom):
                        self.assertIn(node, tree.body)
                        self.assertEqual(node.level, 0)
                        self.assertRegex(node.module, r"\Adodays\.[a-z_]+\Z")
                        self.assertNotIn("*", [alias.name for alias in node.names])

    def test_imports_name_the_file_that_defines_and_make_no_ring(self):
        trees = {file: ast.parse(text) for file, text in FILES.items()}
        ahead = {file: {other for other, _ in imports_of(tree)} for file, tree in trees.items()}
        for file, tree in trees.items():
            for other, name in imports_of(tree):
                self.assertIn(name, defined_names(trees[other]), (file, other))
        while ahead:
            free = [file for file, others in ahead.items() if not others & set(ahead)]
            self.assertNotEqual(free, [], ahead)
            for file in free:
                del ahead[file]

    def test_no_local_name_hides_an_import_or_a_class(self):
        for file, text in FILES.items():
            tree = ast.parse(text)
            above = {name for _, name in imports_of(tree)}
            above |= {node.name for node in tree.body if isinstance(node, ast.ClassDef)}
            for node in tree.body:
                if isinstance(node, ast.FunctionDef):
                    with self.subTest(file=file, function=node.name):
                        self.assertEqual(bound_names(node) & above, set())

    def test_names(self):
        for file, text in FILES.items():
            tree = ast.parse(text)
            bound = bound_names(tree)
            with self.subTest(file=file):
                self.assertEqual(bound & set(dir(builtins)), set())
                for name in bound:
                    self.assertRegex(name, r"\A[A-Za-z][A-Za-z0-9_]*\Z|\A__[a-z]+__\Z")
                for node in ast.walk(tree):
                    if isinstance(node, ast.Name) and isinstance(node.ctx, ast.Load):
                        self.assertIn(node.id, bound | BUILTINS)
                    if isinstance(node, ast.Call) and isinstance(node.func, ast.Attribute):
                        self.assertIn(node.func.attr, METHODS)

    def test_module_level(self):
        for file, text in FILES.items():
            tree = ast.parse(text)
            names = [name for _, name in imports_of(tree)]
            for at, node in enumerate(tree.body):
                with self.subTest(file=file, line=node.lineno):
                    if isinstance(node, ast.Expr):
                        self.assertEqual(at, 0)
                        self.assertIsInstance(node.value.value, str)
                    elif isinstance(node, ast.Assign):
                        names.append(node.targets[0].id)
                        self.assertEqual(len(node.targets), 1)
                        ast.literal_eval(node.value)
                    elif isinstance(node, (ast.FunctionDef, ast.ClassDef)):
                        names.append(node.name)
                        self.assertEqual(node.decorator_list, [])
                    else:
                        self.assertIsInstance(node, ast.ImportFrom)
            self.assertEqual(len(names), len(set(names)), file)

    def test_refusals_are_raised_and_caught_by_name(self):
        own = defined_names(ast.parse(FILES["errors.py"]))
        for file, text in FILES.items():
            for node in ast.walk(ast.parse(text)):
                with self.subTest(file=file, line=getattr(node, "lineno", 0)):
                    if isinstance(node, ast.Raise):
                        self.assertIn(node.exc.func.id, own)
                        self.assertTrue(all(isinstance(given, ast.Constant) for given in node.exc.args))
                    if isinstance(node, ast.ExceptHandler):
                        self.assertIn(node.type.id, own)

    def test_keywords_of_builtins(self):
        for file, text in FILES.items():
            for node in ast.walk(ast.parse(text)):
                if isinstance(node, ast.Call):
                    with self.subTest(file=file, line=node.lineno):
                        words = {keyword.arg for keyword in node.keywords}
                        name = node.func.id if isinstance(node.func, ast.Name) else None
                        allowed = {"sorted": {"key", "reverse"}, "min": {"key", "default"}, "max": {"key", "default"}}
                        self.assertLessEqual(words, allowed.get(name, set()))

    def test_statements_and_values(self):
        barred = (ast.Global, ast.AsyncFunctionDef, ast.Await, ast.Div)
        for file, text in FILES.items():
            for node in ast.walk(ast.parse(text)):
                with self.subTest(file=file, line=getattr(node, "lineno", 0)):
                    self.assertNotIsInstance(node, barred)
                    if isinstance(node, ast.Constant):
                        self.assertNotIsInstance(node.value, (float, complex))
                        self.assertFalse(isinstance(node.value, str) and "%" in node.value)
                    if isinstance(node, ast.Compare):
                        for sign, right in zip(node.ops, node.comparators):
                            if isinstance(sign, (ast.Is, ast.IsNot)):
                                self.assertIsInstance(right, ast.Constant)


if __name__ == "__main__":
    unittest.main()
