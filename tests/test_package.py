"""The package's files: what the interface lists stands in them, and what can be counted keeps its limits."""

import ast
import pathlib
import unittest

PACKAGE = pathlib.Path(__file__).resolve().parent.parent / "joinmarks"

FUNCTIONS = {
    "rows.py": {"run": ["rows", "values", "most"]},
    "ways.py": {"reached": ["rows"], "comers": ["rows"], "names_wanted": ["rows"]},
}

CLASSES = {
    "errors.py": {
        "RowError": "ValueError",
        "TooMany": "RowError",
        "BadRow": "RowError",
        "BadPlace": "RowError",
        "NoJoin": "RowError",
    },
}


def sources():
    for path in sorted(PACKAGE.rglob("*")):
        if "__pycache__" not in path.parts and path.is_file():
            yield path.name, path.read_text("utf-8")


def top_of(name):
    return ast.parse((PACKAGE / name).read_text("utf-8")).body


class Interface(unittest.TestCase):
    def test_functions_stand_in_their_files(self):
        for name, listed in FUNCTIONS.items():
            found = {
                node.name: [arg.arg for arg in node.args.args]
                for node in top_of(name)
                if isinstance(node, ast.FunctionDef)
            }
            for function, args in listed.items():
                self.assertEqual(found.get(function), args, f"{function} of {name}")

    def test_classes_stand_in_their_files(self):
        for name, listed in CLASSES.items():
            found = {
                node.name: ast.unparse(node.bases[0])
                for node in top_of(name)
                if isinstance(node, ast.ClassDef)
            }
            self.assertEqual(found, listed)


class Limits(unittest.TestCase):
    def test_files_are_small_and_plain(self):
        for name, text in sources():
            with self.subTest(name=name):
                self.assertRegex(name, r"\A[a-z_]+\.py\Z")
                self.assertLessEqual(len(text.splitlines()), 399)
                self.assertLessEqual(max([len(line) for line in text.splitlines()] or [0]), 120)
                self.assertEqual({sign for sign in text if sign != "\n" and not " " <= sign <= "~"}, set())

    def test_functions_are_small(self):
        for name, text in sources():
            for node in ast.walk(ast.parse(text)):
                if isinstance(node, ast.FunctionDef):
                    self.assertLessEqual(node.end_lineno - node.lineno + 1, 40, f"{node.name} of {name}")

    def test_nothing_outside_the_package_is_imported(self):
        for name, text in sources():
            for node in ast.walk(ast.parse(text)):
                self.assertNotIsInstance(node, ast.Import, name)
                if isinstance(node, ast.ImportFrom):
                    self.assertEqual((node.level, node.module.partition(".")[0]), (0, "joinmarks"), name)


if __name__ == "__main__":
    unittest.main()
