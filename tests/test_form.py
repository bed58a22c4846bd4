"""The form of the package: its interface, and the plainer ones of the rules it is written by."""

import ast
import importlib
import inspect
import unittest
from pathlib import Path

FOLDER = Path(__file__).resolve().parent.parent / "heaptrees"
FILES = sorted(FOLDER.rglob("*.py"))

INTERFACE = {
    "trees": {
        "is_tree": ["thing"], "size_of": ["tree"], "depth_of": ["tree"], "told_form": ["tree"],
        "are_same": ["one", "other"], "written_tree": ["tree"], "heap_of": ["tree"],
        "from_heap": ["letter", "heap"],
    },
    "judges": {
        "is_judge": ["thing"], "class_of": ["number", "few", "turn"], "state_of": ["judge", "tree"],
        "lets_by": ["judge", "tree"], "part_states": ["judge", "tree"],
    },
    "sums": {
        "is_condition": ["thing", "s"], "condition_holds": ["condition", "numbers"],
        "state_by_rules": ["rules", "tree"], "rules_let_by": ["rules", "tree"],
        "judge_made": ["rules"],
    },
    "joining": {"turned_judge": ["judge"], "judges_joined": ["word", "one", "other"]},
    "coming": {
        "states_that_come": ["judge"], "least_trees": ["judge"], "none_paper": ["judge"],
        "none_shows": ["judge", "paper"],
    },
    "within": {
        "within_told": ["one", "other"], "within_shows": ["one", "other", "paper"],
        "same_judges": ["one", "other"],
    },
    "leastjudge": {
        "put_into": ["surrounding", "tree"], "least_judge": ["judge"], "renamed": ["one", "other"],
    },
    "apart": {
        "parting_surrounding": ["judge", "p", "q"], "state_behind": ["judge", "surrounding", "p"],
        "alike_paper": ["judge"], "alike_shows": ["judge", "paper"],
    },
    "countedtrees": {
        "count_of": ["judge", "size", "state"], "count_let_by": ["judge", "size"],
        "trees_let_by": ["judge", "size"],
    },
    "texts": {"read_tree": ["text"], "show_judge": ["judge"], "read_judge": ["text"]},
}

CLASSES = {
    ("watch", "Watch"): {
        "__init__": ["judge", "tree"], "put": ["names", "child"], "take": ["names"], "tree": [],
        "state_at": ["names"], "good": [],
    },
    ("desk", "Desk"): {"__init__": [], "say": ["row"], "names": []},
}

LIBRARY = {"heapq", "math", "itertools", "collections"}


def nodes_of(path, *kinds):
    return [node for node in ast.walk(ast.parse(path.read_text())) if isinstance(node, kinds)]


class Interface(unittest.TestCase):
    def test_names_and_arguments_in_the_files_that_list_them(self):
        for file, functions in INTERFACE.items():
            module = importlib.import_module(f"heaptrees.{file}")
            for name, arguments in functions.items():
                with self.subTest(file=file, name=name):
                    function = getattr(module, name)
                    self.assertEqual(function.__module__, module.__name__)
                    self.assertEqual(list(inspect.signature(function).parameters), arguments)

    def test_classes_and_their_methods_in_the_files_that_list_them(self):
        for (file, name), methods in CLASSES.items():
            module = importlib.import_module(f"heaptrees.{file}")
            found = getattr(module, name)
            self.assertEqual(found.__module__, module.__name__)
            for method, arguments in methods.items():
                with self.subTest(file=file, method=method):
                    # In the body of the class itself.
                    parameters = list(inspect.signature(vars(found)[method]).parameters)
                    self.assertEqual(parameters, ["self", *arguments])


class Form(unittest.TestCase):
    def test_the_folder_holds_nothing_but_python_files(self):
        found = [path for path in FOLDER.rglob("*") if "__pycache__" not in path.parts]
        self.assertEqual(sorted(found), FILES)
        self.assertIn(FOLDER / "__init__.py", FILES)

    def test_signs_lines_and_files(self):
        for path in FILES:
            text = path.read_text()
            with self.subTest(path.name):
                self.assertTrue(all(sign == "\n" or " " <= sign <= "~" for sign in text))
                self.assertLessEqual(max(len(line) for line in text.split("\n")), 120)
                self.assertLessEqual(len(text.split("\n")), 399)

    def test_functions_have_forty_lines_at_most(self):
        for path in FILES:
            for node in nodes_of(path, ast.FunctionDef):
                with self.subTest(file=path.name, function=node.name):
                    self.assertLessEqual(node.end_lineno - node.lineno + 1, 40)

    def test_imports(self):
        for path in FILES:
            self.assertEqual(nodes_of(path, ast.Import), [])
            for node in nodes_of(path, ast.ImportFrom):
                with self.subTest(file=path.name, module=node.module):
                    self.assertEqual(node.level, 0)
                    self.assertTrue(node.module in LIBRARY or node.module.startswith("heaptrees."))
                    self.assertTrue(all(name.asname is None and name.name != "*" for name in node.names))


if __name__ == "__main__":
    unittest.main()
