"""The rules of LANGUAGE.md that a test can see: files, imports, sizes, words, and the parts of the language used."""

import ast
import builtins
import pathlib
import re
import unittest

FOLDER = pathlib.Path(__file__).resolve().parent.parent / "pairtells"
LIBRARY = ("heapq", "math", "itertools", "collections")
LET_BUILTINS = """
    len range enumerate zip min max sum abs sorted reversed int str bool bytes list tuple dict set frozenset isinstance
    ord repr any all divmod pow map iter next getattr hasattr setattr super property staticmethod classmethod object
    Exception ValueError TypeError KeyError IndexError LookupError ZeroDivisionError ArithmeticError OverflowError
    RuntimeError NotImplementedError AttributeError StopIteration NotImplemented
""".split()
LET_METHODS = """
    append clear copy count endswith extend find get index insert isalnum isalpha isdigit islower isspace isupper items
    join keys ljust lower lstrip partition pop remove replace reverse rfind rjust rpartition rsplit rstrip setdefault
    split splitlines startswith strip update upper values zfill bit_length add discard sort isascii __init__
""".split()
BARRED_NAMES = """
    register mro elements open input law version_info with_traceback add_note attrgetter breakpoint builtins compile
    copyright credits delattr dir eval exec exit gc globals help id importlib license locals methodcaller os quit type
    vars sys typing typing_extensions enum Enum IntEnum StrEnum Flag IntFlag Generic Protocol ABC ABCMeta namedtuple
    NamedTuple TypedDict TYPE_CHECKING abstractmethod dataclass overload contextmanager
""".split()
BARRED_NODES = (
    ast.Global, ast.AsyncFunctionDef, ast.AsyncFor, ast.AsyncWith, ast.Await, ast.Import, ast.Div, ast.MatMult,
)


def sources():
    return {path: path.read_text(encoding="utf-8") for path in sorted(FOLDER.glob("*.py"))}


def nodes():
    return [(path, node) for path, text in sources().items() for node in ast.walk(ast.parse(text))]


def defined_in(module):
    """Return the names that a module of the package defines itself."""
    tree = ast.parse((FOLDER.parent / (module.replace(".", "/") + ".py")).read_text(encoding="utf-8"))
    defined = [node.name for node in tree.body if isinstance(node, (ast.FunctionDef, ast.ClassDef))]
    return defined + [node.targets[0].id for node in tree.body if isinstance(node, ast.Assign)]


def names_of(node):
    """Return the names that a node of a tree gives or uses."""
    fields = [getattr(node, field, None) for field in ("id", "arg", "attr", "name", "asname")]
    return [name for name in fields if isinstance(name, str)]


class FilesTest(unittest.TestCase):
    def test_the_folder_holds_files_with_plain_names_alone(self):
        names = [path.name for path in FOLDER.iterdir() if path.name != "__pycache__"]
        self.assertIn("__init__.py", names)
        for name in names:
            self.assertRegex(name, "^[a-z_][a-z0-9_]*[.]py$")

    def test_characters_and_sizes(self):
        for path, text in sources().items():
            self.assertRegex(text, "^[ -~\n]*$", path)
            lines = text.split("\n")
            self.assertLess(len(lines), 400, path)
            self.assertLessEqual(max(len(line) for line in lines), 120, path)

    def test_functions_are_small(self):
        for path, node in nodes():
            if isinstance(node, ast.FunctionDef):
                self.assertLessEqual(node.end_lineno - node.lineno + 1, 40, (path, node.name))


class RulesTest(unittest.TestCase):
    def test_imports_name_the_very_file_that_defines(self):
        for path, node in nodes():
            if isinstance(node, ast.ImportFrom) and node.module not in LIBRARY:
                self.assertEqual((0, 0), (node.level, node.col_offset), path)
                self.assertRegex(node.module, "^pairtells[.][a-z]+$", path)
                for name in node.names:
                    self.assertIn(name.name, defined_in(node.module), path)

    def test_module_level_holds_plain_things_alone(self):
        for path, text in sources().items():
            first, *rest = ast.parse(text).body
            self.assertIsInstance(first.value, ast.Constant, path)
            for node in rest:
                self.assertIsInstance(node, (ast.ImportFrom, ast.FunctionDef, ast.ClassDef, ast.Assign), path)

    def test_barred_parts_of_the_language(self):
        for path, node in nodes():
            self.assertNotIsInstance(node, BARRED_NODES, path)
            if isinstance(node, ast.Constant):
                self.assertNotIsInstance(node.value, (float, complex), path)

    def test_builtins_and_methods(self):
        own = [node.name for path, node in nodes() if isinstance(node, ast.FunctionDef)]
        for path, node in nodes():
            if isinstance(node, ast.Name) and hasattr(builtins, node.id):
                self.assertIn(node.id, LET_BUILTINS, path)
                self.assertIsInstance(node.ctx, ast.Load, path)
            if isinstance(node, ast.Call) and isinstance(node.func, ast.Attribute):
                self.assertIn(node.func.attr, LET_METHODS + own, path)

    def test_whole_lists_are_handed_to_builtins_beside_a_class_that_compares(self):
        for path, node in nodes():
            if isinstance(node, ast.Call) and names_of(node.func)[:1] and node.args:
                if names_of(node.func)[0] in ("any", "all", "min", "max", "sum", "sorted"):
                    self.assertNotIsInstance(node.args[0], ast.GeneratorExp, path)

    def test_barred_names_and_words(self):
        for path, node in nodes():
            for name in names_of(node):
                self.assertNotIn(name, BARRED_NAMES, path)
                self.assertNotRegex(name, "^_(wall|pe_|dcw_|enum_|cm_|law_|lay_|stub_|sre)", path)

    def test_comments_and_strings_hold_no_hidden_words(self):
        for path, text in sources().items():
            self.assertIsNone(re.search("_wall|_WallAttr", text), path)


if __name__ == "__main__":
    unittest.main()
