"""What can be seen of the written language in the package's own files."""

import ast
import builtins
import pathlib
import re
import unittest
import warnings

ROOT = pathlib.Path(__file__).resolve().parent.parent
PACKAGE = ROOT / "leakpost"
FILES = sorted(PACKAGE.glob("*.py"))
BARRED = re.compile(
    r"\b(type|typing|typing_extensions|enum|Enum|IntEnum|StrEnum|Flag|IntFlag|Generic|Protocol|ABC|ABCMeta"
    r"|namedtuple|NamedTuple|TypedDict|TYPE_CHECKING|abstractmethod)\b|dataclass|overload|contextmanager")
HOMES = {
    "errors.py": (
        "LeakError", "BadName", "BadWord", "BadAct", "BadScene", "BadWish", "BadBody", "BadAtom", "BadDeed",
        "BadText", "Taken", "Full", "Heavy", "NoMachine", "NoRow", "NoMove", "NoLetter", "NoLab", "NoWish",
        "NoDeed"),
    "words.py": ("is_name", "is_letter", "is_word", "within", "spots", "behind"),
    "scenes.py": ("above", "least"),
    "lab.py": ("Lab",),
    "moves.py": ("can", "done", "best", "ways", "leaked"),
    "wishes.py": ("grants", "least_of"),
    "back.py": ("turned", "Search"),
    "runs.py": ("play", "count", "best_run"),
    "answers.py": ("answer", "shows"),
    "products.py": ("is_product", "holds", "inside", "plain", "sent", "taken", "swollen", "product_of",
                    "product_text", "read_product"),
    "ends.py": ("ends", "shows_goes"),
    "cover.py": ("cover", "shuts", "lets"),
    "pieces.py": ("pieces",),
    "bodies.py": ("is_body", "parts", "body_text", "read_body"),
    "compiled.py": ("compiled",),
    "labtext.py": ("lab_text", "read_lab"),
    "bench.py": ("Bench",),
    "pages.py": ("deed_text", "deed_of", "page", "bench_of"),
    "desk.py": ("Desk",),
}
METHODS = {
    "Lab": ("__init__", "machines", "rows", "moves", "stands", "begin", "has", "__eq__", "__len__", "__repr__",
            "__str__"),
    "Search": ("__init__", "more", "layer", "since", "__len__"),
    "Bench": (
        "__init__", "lab", "drop", "machine", "row", "move", "strike", "load", "wish", "unwish", "many", "do", "undo",
        "redo", "trial", "twin", "labs", "wishes", "lab_of", "wish_of", "ask", "found", "deeds", "undone", "__eq__",
        "__len__", "__repr__"),
    "Desk": ("__init__", "say"),
}
# Methods of builtin values that the package may call.
CALLED = (
    "append clear copy count endswith extend find get index insert isalnum isalpha isdigit islower isspace isupper "
    "items join keys ljust lower lstrip partition pop remove replace reverse rfind rjust rpartition rsplit rstrip "
    "setdefault split splitlines startswith strip update upper values zfill bit_length").split()
BUILTINS = (
    "len range enumerate zip min max sum abs sorted reversed int str bool list tuple dict set isinstance ord repr "
    "any all divmod ValueError KeyError IndexError LookupError").split()
BARRED_NAMES = (
    "register mro elements open input law version_info with_traceback add_note attrgetter breakpoint builtins "
    "compile copyright credits delattr dir eval exec exit gc getattr globals hasattr help id importlib license "
    "locals methodcaller os quit setattr super type vars sys").split()
QUIET = ("__eq__", "__len__", "__repr__", "__str__")
TREES = {file.name: ast.parse(file.read_text()) for file in FILES}


def walk(kind):
    """All nodes of the kind, with the names of their files."""
    return [(name, node) for name, tree in TREES.items() for node in ast.walk(tree) if isinstance(node, kind)]


def bound(tree):
    """All names that are given a meaning in the tree but by imports."""
    names = [node.id for node in ast.walk(tree) if isinstance(node, ast.Name) and isinstance(node.ctx, ast.Store)]
    names += [node.arg for node in ast.walk(tree) if isinstance(node, ast.arg)]
    names += [node.name for node in ast.walk(tree) if isinstance(node, ast.ExceptHandler) and node.name]
    return names + [node.name for node in tree.body if isinstance(node, (ast.FunctionDef, ast.ClassDef))]


def imported(tree):
    """Of each name that the tree imports the file that it is of."""
    return {name.asname or name.name: node.module.split(".")[1] + ".py"
            for node in tree.body if isinstance(node, ast.ImportFrom) for name in node.names}


class TestLanguage(unittest.TestCase):
    def test_the_folder_has_plain_files_only(self):
        self.assertIn("__init__.py", [file.name for file in FILES])
        for thing in PACKAGE.iterdir():
            if thing.name != "__pycache__":
                self.assertRegex(thing.name, r"\A[a-z0-9_]+\.py\Z")

    def test_sizes_and_signs(self):
        for file in FILES:
            text = file.read_bytes().decode("ascii")
            self.assertRegex(text, r"\A[ -~\n]*\Z", file.name)
            self.assertLessEqual(len(text.split("\n")), 399, file.name)
            for line in text.split("\n"):
                self.assertLessEqual(len(line), 120, file.name)
            self.assertIsNone(BARRED.search(text), file.name)

    def test_functions_are_short(self):
        for file in FILES:
            for node in ast.walk(ast.parse(file.read_text())):
                if isinstance(node, ast.FunctionDef):
                    self.assertLessEqual(node.end_lineno - node.lineno + 1, 40, node.name)

    def test_imports_are_of_the_package(self):
        for file in FILES:
            for node in ast.walk(ast.parse(file.read_text())):
                self.assertNotIsInstance(node, ast.Import, file.name)
                if isinstance(node, ast.ImportFrom):
                    self.assertEqual(node.level, 0, file.name)
                    self.assertTrue(node.module.startswith("leakpost."), file.name)

    def test_python_warns_of_no_line(self):
        for file in FILES:
            with warnings.catch_warnings():
                warnings.simplefilter("error")
                compile(file.read_text(), file.name, "exec")

    def test_the_interface_is_defined_in_its_files(self):
        for name, wanted in HOMES.items():
            body = ast.parse((PACKAGE / name).read_text()).body
            found = [node.name for node in body if isinstance(node, (ast.FunctionDef, ast.ClassDef))]
            for thing in wanted:
                self.assertEqual(found.count(thing), 1, thing)

    def test_methods_of_the_interface_are_defined_in_their_classes(self):
        found = {node.name: [one.name for one in node.body if isinstance(one, ast.FunctionDef)]
                 for name, node in walk(ast.ClassDef)}
        for name, wanted in METHODS.items():
            for method in wanted:
                self.assertEqual(found[name].count(method), 1, f"{name}.{method}")


class TestNames(unittest.TestCase):
    def test_bound_names_are_plain_and_no_builtins(self):
        for file, tree in TREES.items():
            for name in bound(tree):
                self.assertFalse(name.startswith("_"), f"{file}: {name}")
                self.assertFalse(hasattr(builtins, name), f"{file}: {name}")
                self.assertNotIn(name, BARRED_NAMES, file)

    def test_no_local_name_is_an_imports_or_a_classs(self):
        for file, tree in TREES.items():
            classes = [node.name for node in tree.body if isinstance(node, ast.ClassDef)]
            names = [name for name in bound(tree) if name not in classes]
            for name in list(imported(tree)) + classes:
                self.assertNotIn(name, names, file)

    def test_a_name_is_bound_once_at_module_level(self):
        for file, tree in TREES.items():
            names = list(imported(tree))
            names += [node.name for node in tree.body if isinstance(node, (ast.FunctionDef, ast.ClassDef))]
            names += [one.id for node in tree.body if isinstance(node, ast.Assign) for one in node.targets]
            self.assertEqual(len(set(names)), len(names), file)

    def test_imports_name_the_file_that_defines_the_name(self):
        for file, tree in TREES.items():
            for name, home in imported(tree).items():
                home_tree = TREES[home]
                self.assertNotIn(name, imported(home_tree), file)
                self.assertIn(name, bound(home_tree), file)

    def test_imports_make_no_ring(self):
        left = {file: set(imported(tree).values()) for file, tree in TREES.items()}
        while left:
            free = [file for file, wanted in left.items() if not wanted & set(left)]
            self.assertNotEqual(free, [], sorted(left))
            for file in free:
                del left[file]

    def test_what_is_read_is_bound_or_one_of_the_builtins(self):
        for file, tree in TREES.items():
            known = set(bound(tree)) | set(imported(tree)) | set(BUILTINS)
            for node in ast.walk(tree):
                if isinstance(node, ast.Name):
                    self.assertIn(node.id, known, file)

    def test_no_name_is_a_method_and_an_attribute(self):
        methods = {one.name for file, node in walk(ast.ClassDef) for one in node.body
                   if isinstance(one, ast.FunctionDef)}
        stored = {node.attr for file, node in walk(ast.Attribute) if isinstance(node.ctx, ast.Store)}
        self.assertEqual(methods & stored, set())
        for file, node in walk(ast.Attribute):
            self.assertTrue(node.attr in methods | stored or node.attr in CALLED, f"{file}: {node.attr}")


class TestExpressions(unittest.TestCase):
    def test_what_is_not_used(self):
        barred = (ast.GeneratorExp, ast.Lambda, ast.Global, ast.Nonlocal, ast.Div, ast.AsyncFunctionDef, ast.Await)
        self.assertEqual([(file, node.lineno) for file, node in walk(barred)], [])
        for file, node in walk(ast.FunctionDef):
            self.assertEqual(node.decorator_list, [], file)
            self.assertEqual(node.args.posonlyargs, [], file)

    def test_no_string_has_the_sign_for_hundredths(self):
        for file, node in walk(ast.Constant):
            self.assertFalse(isinstance(node.value, float), file)
            if isinstance(node.value, str):
                self.assertNotIn("%", node.value, file)

    def test_is_stands_beside_none_true_and_false_only(self):
        for file, node in walk(ast.Compare):
            for sign, right in zip(node.ops, node.comparators):
                if isinstance(sign, (ast.Is, ast.IsNot)):
                    self.assertIsInstance(right, ast.Constant, file)
                    self.assertIn(right.value, (None, True, False), file)

    def test_quiet_methods_assign_nothing_and_end_in_a_return(self):
        for file, node in walk(ast.FunctionDef):
            if node.name in QUIET:
                self.assertIsInstance(node.body[-1], ast.Return, file)
                for one in ast.walk(node):
                    self.assertNotIsInstance(one, (ast.Assign, ast.AugAssign, ast.Delete), f"{file}: {node.name}")

    def test_tables_have_plain_values_and_functions_defined_above(self):
        for file, tree in TREES.items():
            for node in tree.body:
                if isinstance(node, ast.Assign):
                    above = [one.name for one in tree.body[:tree.body.index(node)] if isinstance(one, ast.FunctionDef)]
                    for one in ast.walk(node.value):
                        self.assertNotIsInstance(one, (ast.Call, ast.ListComp, ast.DictComp, ast.Attribute), file)
                        if isinstance(one, ast.Name):
                            self.assertIn(one.id, above, file)

    def test_behind_a_star_stands_a_name(self):
        for file, node in walk(ast.Starred):
            self.assertIsInstance(node.value, ast.Name, file)
        for file, node in walk(ast.Dict):
            for key, value in zip(node.keys, node.values):
                self.assertTrue(key is not None or isinstance(value, ast.Name), file)

    def test_only_own_errors_are_caught(self):
        for file, node in walk(ast.ExceptHandler):
            self.assertIn(node.type.id, HOMES["errors.py"], file)

    def test_errors_are_made_where_they_are_raised(self):
        for file, node in walk(ast.Raise):
            self.assertIsInstance(node.exc, ast.Call, file)
            self.assertIn(node.exc.func.id, HOMES["errors.py"], file)


if __name__ == "__main__":
    unittest.main()
