"""The package's files: what the interface lists stands in them, and what can be counted keeps its limits."""

import ast
import pathlib
import unittest

PACKAGE = pathlib.Path(__file__).resolve().parent.parent / "joinmarks"

FUNCTIONS = {
    "rows.py": {"run": ["rows", "values", "most"]},
    "ways.py": {"reached": ["rows"], "comers": ["rows"], "names_wanted": ["rows"]},
    "once.py": {"made": ["rows"]},
    "running.py": {"run_once": ["once", "values", "most"], "meeting": ["once", "place", "name"]},
    "short.py": {"shortened": ["once"]},
    "back.py": {"names_by": ["once"], "turned_back": ["once"]},
}

CLASSES = {
    "errors.py": {
        "RowError": "ValueError",
        "TooMany": "RowError",
        "BadRow": "RowError",
        "BadPlace": "RowError",
        "NoJoin": "RowError",
    },
    "once.py": {"Once": None},
}

METHODS = {"row": ["self", "place"], "joins": ["self", "place"], "wanted": ["self", "place"]}


def sources():
    for path in sorted(PACKAGE.rglob("*")):
        if "__pycache__" not in path.parts and path.is_file():
            yield path.name, path.read_text("utf-8")


def top_of(name):
    return ast.parse((PACKAGE / name).read_text("utf-8")).body


class Interface(unittest.TestCase):
    def test_functions_stand_in_their_files(self):
        for name, listed in FUNCTIONS.items():
            found = {
                node.name: [arg.arg for arg in node.args.args]
                for node in top_of(name)
                if isinstance(node, ast.FunctionDef)
            }
            for function, args in listed.items():
                self.assertEqual(found.get(function), args, f"{function} of {name}")

    def test_classes_stand_in_their_files(self):
        for name, listed in CLASSES.items():
            found = {
                node.name: ast.unparse(node.bases[0]) if node.bases else None
                for node in top_of(name)
                if isinstance(node, ast.ClassDef)
            }
            self.assertEqual(found, listed)

    def test_methods_stand_in_their_class(self):
        form = [node for node in top_of("once.py") if isinstance(node, ast.ClassDef)][0]
        found = {
            node.name: [arg.arg for arg in node.args.args]
            for node in form.body
            if isinstance(node, ast.FunctionDef) and node.name in METHODS
        }
        self.assertEqual(found, METHODS)


class Readme(unittest.TestCase):
    def test_the_examples_tell_what_they_say(self):
        blocks = (PACKAGE.parent / "README.md").read_text("utf-8").split("```python\n")[1:]
        many = 0
        for block in blocks:
            names = {}
            code = block.partition("```")[0]
            for node in ast.parse(code).body:
                line = code.splitlines()[node.end_lineno - 1]
                if isinstance(node, ast.Expr):
                    many += 1
                    told = eval(ast.get_source_segment(code, node), names)
                    self.assertEqual(told, ast.literal_eval(line.partition("# ")[2]), line)
                else:
                    exec(ast.get_source_segment(code, node), names)
        self.assertEqual(many, 16)


class Limits(unittest.TestCase):
    def test_files_are_small_and_plain(self):
        for name, text in sources():
            with self.subTest(name=name):
                self.assertRegex(name, r"\A[a-z_]+\.py\Z")
                self.assertLessEqual(len(text.splitlines()), 399)
                self.assertLessEqual(max([len(line) for line in text.splitlines()] or [0]), 120)
                self.assertEqual({sign for sign in text if sign != "\n" and not " " <= sign <= "~"}, set())

    def test_functions_are_small(self):
        for name, text in sources():
            for node in ast.walk(ast.parse(text)):
                if isinstance(node, ast.FunctionDef):
                    self.assertLessEqual(node.end_lineno - node.lineno + 1, 40, f"{node.name} of {name}")

    def test_nothing_outside_the_package_is_imported(self):
        for name, text in sources():
            for node in ast.walk(ast.parse(text)):
                self.assertNotIsInstance(node, ast.Import, name)
                if isinstance(node, ast.ImportFrom):
                    self.assertEqual((node.level, node.module.partition(".")[0]), (0, "joinmarks"), name)


if __name__ == "__main__":
    unittest.main()
