"""Part of the rules of ../shared/LANGUAGE.md, those that are easily broken by oversight."""

import ast
import builtins
import pathlib
import re
import tokenize
import unittest

import focuswalk

FOLDER = pathlib.Path(focuswalk.__file__).parent
TREES = {path.name: ast.parse(path.read_text(encoding="utf-8"))
         for path in sorted(FOLDER.glob("*.py"))}

ALLOWED_BUILTINS = set("""
len range enumerate zip min max sum abs sorted reversed int str bool bytes list tuple dict set
frozenset isinstance ord repr any all divmod super property staticmethod classmethod
Exception ValueError TypeError KeyError IndexError LookupError ZeroDivisionError ArithmeticError
OverflowError RuntimeError NotImplementedError AttributeError StopIteration
""".split())
BARRED_WORDS = set("""
type typing typing_extensions enum Enum IntEnum StrEnum Flag IntFlag Generic Protocol ABC ABCMeta
namedtuple NamedTuple TypedDict TYPE_CHECKING abstractmethod
""".split())
BARRED_NODES = (ast.Global, ast.AsyncFunctionDef, ast.AsyncFor, ast.AsyncWith, ast.Await,
                ast.NamedExpr, ast.Div, ast.Import)
BARRED_NAMES = set("""
register mro elements open input version_info with_traceback add_note
""".split())
TAKES_A_GENERATOR = ("list", "tuple", "dict", "sorted", "sum", "min", "max", "any", "all")
DOUBLE_METHODS = {"__init__", "__eq__", "__repr__", "__str__", "__len__", "__enter__", "__exit__"}


def nodes(*kinds):
    """Pairs of a file's name and a node of these kinds."""
    return [(file, node) for file, tree in TREES.items() for node in ast.walk(tree)
            if isinstance(node, kinds)]


def bound_names(tree):
    """All names that a file binds, of variables, parameters, functions, classes, attributes."""
    names = []
    for node in ast.walk(tree):
        if isinstance(node, (ast.FunctionDef, ast.ClassDef)):
            names.append(node.name)
        elif isinstance(node, ast.arg):
            names.append(node.arg)
        elif isinstance(node, ast.Name) and not isinstance(node.ctx, ast.Load):
            names.append(node.id)
        elif isinstance(node, ast.Attribute) and not isinstance(node.ctx, ast.Load):
            names.append(node.attr)
    return names


class Form(unittest.TestCase):
    def test_folder_has_nothing_but_python_files(self):
        others = [path.name for path in FOLDER.iterdir()
                  if path.name != "__pycache__" and path.suffix != ".py"]
        self.assertEqual(others, [])

    def test_characters_lines_and_words(self):
        for name in TREES:
            text = (FOLDER / name).read_text(encoding="utf-8")
            self.assertEqual(re.findall(r"[^ -~\n]", text), [], name)
            lines = text.split("\n")
            self.assertLessEqual(len(lines), 400, name)
            self.assertLessEqual(max(map(len, lines)), 120, name)
            self.assertEqual(BARRED_WORDS & set(re.findall(r"\w+", text)), set(), name)

    def test_functions_are_short(self):
        for file, node in nodes(ast.FunctionDef):
            self.assertLessEqual(node.end_lineno - node.lineno + 1, 40, f"{file} {node.name}")

    def test_statements_and_expressions(self):
        for file, node in nodes(*BARRED_NODES):
            self.fail(f"{file} {node.lineno}: {type(node).__name__}")

    def test_imports_name_the_file_that_defines(self):
        for file, node in nodes(ast.ImportFrom):
            self.assertEqual(node.level, 0, file)
            package, module = node.module.split(".")
            self.assertEqual(package, "focuswalk", file)
            here = {part.name for part in TREES[module + ".py"].body if hasattr(part, "name")}
            here |= {target.id for part in TREES[module + ".py"].body
                     if isinstance(part, ast.Assign) for target in part.targets}
            self.assertLessEqual({part.name for part in node.names}, here, file)

    def test_builtins(self):
        known = set(dir(builtins)) - ALLOWED_BUILTINS
        for file, node in nodes(ast.Name):
            self.assertNotIn(node.id, known, f"{file} {node.lineno}")

    def test_bound_names(self):
        for file, tree in TREES.items():
            imports = {part.name for node in ast.walk(tree) if isinstance(node, ast.ImportFrom)
                       for part in node.names}
            classes = {node.name for node in ast.walk(tree) if isinstance(node, ast.ClassDef)}
            barred = BARRED_NAMES | imports | set(dir(builtins)) - DOUBLE_METHODS
            for name in bound_names(tree):
                self.assertNotIn(name, barred, file)
                self.assertTrue(not name.startswith("_") or name in DOUBLE_METHODS, f"{file} {name}")
            self.assertEqual(sum(bound_names(tree).count(name) for name in classes), len(classes))

    def test_methods_and_attributes(self):
        methods = {part.name for file, node in nodes(ast.ClassDef) for part in node.body
                   if isinstance(part, ast.FunctionDef)}
        assigned = {node.attr for file, node in nodes(ast.Attribute) if isinstance(node.ctx, ast.Store)}
        self.assertEqual(methods & assigned, set())
        called = {id(node.func) for file, node in nodes(ast.Call)}
        for file, node in nodes(ast.Attribute):
            if isinstance(node.ctx, ast.Load) and id(node) not in called:
                self.assertIn(node.attr, assigned, f"{file} {node.lineno}")

    def test_no_two_files_import_from_each_other(self):
        behind = {file: {part.module.split(".")[1] + ".py" for part in tree.body if isinstance(part, ast.ImportFrom)}
                  for file, tree in TREES.items()}
        while behind:
            free = [file for file, names in behind.items() if not names & set(behind)]
            self.assertNotEqual(free, [], behind)
            behind = {file: names for file, names in behind.items() if file not in free}

    def test_is_only_with_none_and_truths(self):
        for file, node in nodes(ast.Compare):
            for sign, other in zip(node.ops, node.comparators):
                if isinstance(sign, (ast.Is, ast.IsNot)):
                    self.assertIsInstance(other, ast.Constant, file)
                    self.assertIn(other.value, (None, True, False), file)

    def test_powers_have_a_written_exponent(self):
        for file, node in nodes(ast.BinOp):
            if isinstance(node.op, ast.Pow):
                self.assertIsInstance(node.right, ast.Constant, f"{file} {node.lineno}")
                self.assertIn(node.right.value, range(65), f"{file} {node.lineno}")

    def test_generator_expressions_stand_directly_in_a_call(self):
        calls = [node for file, node in nodes(ast.Call)]
        good = {id(node.args[0]) for node in calls
                if node.args and getattr(node.func, "id", "") in TAKES_A_GENERATOR}
        for file, node in nodes(ast.GeneratorExp):
            self.assertIn(id(node), good, f"{file} {node.lineno}")

    def test_strings(self):
        for name in TREES:
            with open(FOLDER / name, "rb") as source:
                for token in tokenize.tokenize(source.readline):
                    if token.type == tokenize.STRING:
                        self.assertNotIn("%", token.string, name)
                        self.assertEqual(re.findall(r"\\[^nt\\'\"]", token.string), [], name)


if __name__ == "__main__":
    unittest.main()
