"""What can be seen of the written language in the package's own files."""

import ast
import pathlib
import re
import unittest
import warnings

ROOT = pathlib.Path(__file__).resolve().parent.parent
PACKAGE = ROOT / "leakpost"
FILES = sorted(PACKAGE.glob("*.py"))
BARRED = re.compile(
    r"\b(type|typing|typing_extensions|enum|Enum|IntEnum|StrEnum|Flag|IntFlag|Generic|Protocol|ABC|ABCMeta"
    r"|namedtuple|NamedTuple|TypedDict|TYPE_CHECKING|abstractmethod)\b|dataclass|overload|contextmanager")
HOMES = {
    "errors.py": (
        "LeakError", "BadName", "BadWord", "BadAct", "BadScene", "BadWish", "BadBody", "BadAtom", "BadDeed",
        "BadText", "Taken", "Full", "Heavy", "NoMachine", "NoRow", "NoMove", "NoLetter", "NoLab", "NoWish",
        "NoDeed"),
    "words.py": ("is_name", "is_letter", "is_word", "within", "spots", "behind"),
    "scenes.py": ("above", "least"),
}


class TestLanguage(unittest.TestCase):
    def test_the_folder_has_plain_files_only(self):
        self.assertIn("__init__.py", [file.name for file in FILES])
        for thing in PACKAGE.iterdir():
            if thing.name != "__pycache__":
                self.assertRegex(thing.name, r"\A[a-z0-9_]+\.py\Z")

    def test_sizes_and_signs(self):
        for file in FILES:
            text = file.read_bytes().decode("ascii")
            self.assertRegex(text, r"\A[ -~\n]*\Z", file.name)
            self.assertLessEqual(len(text.split("\n")), 399, file.name)
            for line in text.split("\n"):
                self.assertLessEqual(len(line), 120, file.name)
            self.assertIsNone(BARRED.search(text), file.name)

    def test_functions_are_short(self):
        for file in FILES:
            for node in ast.walk(ast.parse(file.read_text())):
                if isinstance(node, ast.FunctionDef):
                    self.assertLessEqual(node.end_lineno - node.lineno + 1, 40, node.name)

    def test_imports_are_of_the_package(self):
        for file in FILES:
            for node in ast.walk(ast.parse(file.read_text())):
                self.assertNotIsInstance(node, ast.Import, file.name)
                if isinstance(node, ast.ImportFrom):
                    self.assertEqual(node.level, 0, file.name)
                    self.assertTrue(node.module.startswith("leakpost."), file.name)

    def test_python_warns_of_no_line(self):
        for file in FILES:
            with warnings.catch_warnings():
                warnings.simplefilter("error")
                compile(file.read_text(), file.name, "exec")

    def test_the_interface_is_defined_in_its_files(self):
        for name, wanted in HOMES.items():
            body = ast.parse((PACKAGE / name).read_text()).body
            found = [node.name for node in body if isinstance(node, (ast.FunctionDef, ast.ClassDef))]
            for thing in wanted:
                self.assertEqual(found.count(thing), 1, thing)


if __name__ == "__main__":
    unittest.main()
