import ast
import importlib
import inspect
import pathlib
import unittest

FOLDER = pathlib.Path(__file__).resolve().parent.parent / "prooffruit"

INTERFACE = {
    "terms": {"is_word": ["thing"], "is_term": ["thing"], "worth": ["term", "numbers"]},
    "sayings": {
        "is_saying": ["thing"], "is_body": ["thing"], "names_in": ["thing"], "put_in": ["body", "term"],
        "taken": ["saying", "name"], "put_for": ["saying", "name", "term"],
    },
    "grounds": {"is_plain": ["ground"], "grounds_of": ["ground"]},
    "judge": {"grounded": ["thing"]},
    "kinds": {"is_kind": ["thing"], "kind_of": ["saying"]},
    "programs": {"judged": ["thing"]},
    "runs": {"is_worth": ["kind", "thing"], "run": ["program", "numbers", "limit"]},
    "yields": {"yielded": ["ground"], "least": ["kind"]},
    "sight": {"is_flat": ["saying"], "is_seen": ["saying"], "is_true": ["saying"], "bears": ["saying", "thing"]},
    "settled": {"settled": ["saying"], "shown_by": ["saying", "worth"], "sought": ["saying", "most"]},
    "putting": {
        "open_names": ["ground"], "alike": ["one", "other"], "named": ["ground", "name", "term"],
        "supplied": ["ground", "label", "other"],
    },
    "detours": {"detours": ["ground"], "without": ["ground", "place"]},
    "straight": {"straight": ["ground", "limit"]},
    "doubled": {"doubled": ["saying", "wish"], "stable": ["saying", "wish"], "doubled_ground": ["ground", "wish"]},
    "freed": {"freed": ["ground"]},
    "texts": {"written": ["tree"], "read": ["text"]},
    "lore": {"lore": []},
}

# The classes of the interface, with the methods that stand in each itself.
CLASSES = {
    ("book", "Book"): {
        "keep": ["name", "ground"], "mend": ["name", "ground"], "drop": ["name"], "back": [], "listed": [],
        "says": ["name"], "handed": ["name"], "basis": ["name"], "opened": ["name"], "__len__": [],
    },
    ("desk", "Desk"): {"say": ["row"]},
}

# What is handed in by name alone, and what it is if nothing is said.
BY_NAME_ALONE = {("runs", "run"): {"limit": 20000}, ("settled", "sought"): {"most": 10},
                 ("straight", "straight"): {"limit": 200}}


def files():
    return sorted(FOLDER.rglob("*.py"))


class Interface(unittest.TestCase):
    def test_functions_are_defined_in_their_files(self):
        for file, functions in INTERFACE.items():
            module = importlib.import_module("prooffruit." + file)
            for word, arguments in functions.items():
                told = getattr(module, word)
                self.assertTrue(inspect.isfunction(told), word)
                self.assertEqual(told.__module__, "prooffruit." + file)
                self.assertEqual(list(inspect.signature(told).parameters), arguments, word)

    def test_methods_stand_in_their_classes(self):
        for (file, word), methods in CLASSES.items():
            told = getattr(importlib.import_module("prooffruit." + file), word)
            self.assertTrue(inspect.isclass(told), word)
            self.assertEqual(told.__module__, "prooffruit." + file)
            self.assertEqual(list(inspect.signature(told).parameters), [], word)
            for method, arguments in methods.items():
                self.assertIn(method, vars(told))
                self.assertEqual(list(inspect.signature(vars(told)[method]).parameters), ["self", *arguments], method)

    def test_what_is_handed_in_by_name_alone(self):
        for file, functions in INTERFACE.items():
            for word in functions:
                rows = inspect.signature(getattr(importlib.import_module("prooffruit." + file), word)).parameters
                alone = {row.name: row.default for row in rows.values() if row.kind == row.KEYWORD_ONLY}
                self.assertEqual(alone, BY_NAME_ALONE.get((file, word), {}), word)


class Files(unittest.TestCase):
    def test_nothing_but_python_files(self):
        for path in FOLDER.rglob("*"):
            if path.is_file() and "__pycache__" not in path.parts:
                self.assertEqual(path.suffix, ".py", path)

    def test_sizes_and_signs(self):
        for path in files():
            text = path.read_bytes().decode("ascii")
            self.assertTrue(all(sign == "\n" or " " <= sign <= "~" for sign in text), path)
            lines = text.split("\n")
            self.assertLess(len(lines), 400, path)
            self.assertLessEqual(max(len(line) for line in lines), 120, path)

    def test_functions_are_short(self):
        for path in files():
            for node in ast.walk(ast.parse(path.read_text())):
                if isinstance(node, ast.FunctionDef):
                    self.assertLessEqual(node.end_lineno - node.lineno + 1, 40, (path, node.name))

    def test_no_outside_package_is_imported(self):
        for path in files():
            for node in ast.walk(ast.parse(path.read_text())):
                self.assertNotIsInstance(node, ast.Import, path)
                if isinstance(node, ast.ImportFrom):
                    own = node.module.startswith("prooffruit.")
                    self.assertTrue(own or node.module in ("heapq", "math", "itertools", "collections"), path)


if __name__ == "__main__":
    unittest.main()
