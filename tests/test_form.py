"""The form of the package: its interface, and what rules of the language show in the text."""

import ast
import importlib
import inspect
import pathlib
import re
import unittest

PACKAGE = pathlib.Path(__file__).parent.parent / "leastheads"

INTERFACE = {
    "queues": {
        "is_numbers": ["value"], "is_family": ["value"], "blocks_of": ["numbers"],
        "merged": ["family"], "assignment_of": ["family"], "same_result": ["family", "other"],
    },
    "plans": {"is_plan": ["value"], "inputs_of": ["plan"], "merger_results": ["family", "plan"]},
    "places": {
        "place_of": ["family", "number"], "number_at": ["family", "place"],
        "comes_before": ["family", "one", "other"], "first_difference": ["family", "other"],
    },
    "backwards": {
        "count_families": ["result", "many"], "nth_family": ["result", "many", "number"],
        "rank_of": ["family"], "count_with_lengths": ["result", "lengths"],
        "nth_with_lengths": ["result", "lengths", "number"], "blocks_to_move": ["family", "other"],
    },
    "facts": {
        "are_facts": ["result", "value"], "satisfies": ["result", "facts", "value"],
        "contradiction_of": ["result", "facts"], "is_contradiction": ["result", "facts", "value"],
        "count_satisfying": ["result", "facts"], "nth_satisfying": ["result", "facts", "number"],
        "follows": ["result", "facts", "fact"],
    },
    "dealing": {
        "misplaced_pair": ["given", "wanted"], "are_compatible": ["given", "wanted", "one", "other"],
        "is_dealing": ["given", "wanted", "value"], "fewest_queues": ["given", "wanted"],
        "fewest_dealing": ["given", "wanted"], "are_incompatible": ["given", "wanted", "value"],
        "incompatible_blocks": ["given", "wanted"],
    },
    "opens": {
        "certain_beginning": ["family", "open_queues"], "exhausted_queues": ["family", "open_queues"],
        "is_continuation": ["family", "open_queues", "value"],
        "is_witness": ["family", "open_queues", "value"], "witness_of": ["family", "open_queues"],
    },
    "nets": {"Net": ["plan"]},
    "texts": {
        "show_family": ["family"], "read_family": ["text"], "show_plan": ["plan"], "read_plan": ["text"],
    },
    "desk": {"Desk": []},
}
CLASSES = {
    ("nets", "Net"): {
        "put_number": ["source", "number"], "close_source": ["source"], "arrive_from": ["lane"],
        "settle_all": [], "result_so_far": [], "on_the_way": [], "waits_for": ["merger"],
        "held_at": ["merger"], "is_finished": [], "family_so_far": [], "undo_last": [],
    },
    ("desk", "Desk"): {"execute": ["row"]},
}

BUILTINS = set(
    "len range enumerate zip min max sum abs sorted reversed int str bool list tuple dict set "
    "isinstance ord repr any all divmod ValueError".split()
)
METHODS = set(
    "append clear copy count endswith extend find get index insert isalnum isalpha isdigit islower "
    "isspace isupper items join keys ljust lower lstrip partition pop remove replace reverse rfind "
    "rjust rpartition rsplit rstrip setdefault split splitlines startswith strip update upper values "
    "zfill bit_length add discard __init__".split()
)


def sources():
    """The files of the package with their texts."""
    return [(path, path.read_text(encoding="utf-8")) for path in sorted(PACKAGE.glob("*.py"))]


def own_methods():
    """The names of all methods of the package's classes."""
    return {
        method.name
        for _, text in sources() for node in ast.walk(ast.parse(text)) if isinstance(node, ast.ClassDef)
        for method in node.body if isinstance(method, ast.FunctionDef)
    }


class InterfaceTest(unittest.TestCase):
    def test_names_and_arguments(self):
        for name, functions in INTERFACE.items():
            module = importlib.import_module(f"leastheads.{name}")
            for function, parameters in functions.items():
                found = getattr(module, function)
                self.assertEqual(found.__module__, f"leastheads.{name}")
                self.assertEqual(list(inspect.signature(found).parameters), parameters)

    def test_methods_stand_in_the_class_itself(self):
        for (module, name), methods in CLASSES.items():
            found = getattr(importlib.import_module(f"leastheads.{module}"), name)
            for method, parameters in methods.items():
                self.assertTrue(inspect.isfunction(vars(found)[method]), method)
                self.assertEqual(list(inspect.signature(vars(found)[method]).parameters), ["self", *parameters])


class FormTest(unittest.TestCase):
    def test_the_folder_holds_python_files_only(self):
        names = [path.name for path in PACKAGE.iterdir() if path.name != "__pycache__"]
        for name in names:
            self.assertRegex(name, r"^[a-z_]+\.py$")
        self.assertIn("__init__.py", names)

    def test_sizes_and_characters(self):
        for path, text in sources():
            lines = text.split("\n")
            self.assertLess(len(lines), 400, path)
            self.assertLessEqual(max(len(line) for line in lines), 120, path)
            self.assertRegex(text, r"\A[ -~\n]*\Z", path)

    def test_functions_are_short_and_bare(self):
        for path, text in sources():
            for node in ast.walk(ast.parse(text)):
                if isinstance(node, ast.FunctionDef):
                    self.assertLessEqual(node.end_lineno - node.lineno + 1, 40, (path, node.name))
                    self.assertEqual(node.decorator_list, [], (path, node.name))

    def test_imports_name_the_package_only(self):
        for path, text in sources():
            for node in ast.walk(ast.parse(text)):
                self.assertNotIsInstance(node, ast.Import, path)
                if isinstance(node, ast.ImportFrom):
                    self.assertRegex(node.module, r"^leastheads\.[a-z_]+$", path)
                    self.assertEqual(node.level, 0, path)

    def test_calls_are_of_own_functions_and_plain_builtins(self):
        methods = own_methods()
        for path, text in sources():
            tree = ast.parse(text)
            own = {node.name for node in ast.walk(tree) if isinstance(node, (ast.FunctionDef, ast.ClassDef))}
            for node in ast.walk(tree):
                if isinstance(node, ast.ImportFrom):
                    own.update(alias.name for alias in node.names)
            for node in ast.walk(tree):
                if isinstance(node, ast.Call) and isinstance(node.func, ast.Name):
                    self.assertIn(node.func.id, own | BUILTINS, path)
                elif isinstance(node, ast.Call):
                    self.assertIn(node.func.attr, methods | METHODS, path)

    def test_no_floats_and_no_words_outside_the_language(self):
        for path, text in sources():
            for node in ast.walk(ast.parse(text)):
                self.assertNotIsInstance(node, (ast.Global, ast.Div, ast.AsyncFunctionDef), path)
                if isinstance(node, ast.Constant):
                    self.assertNotIsInstance(node.value, (float, complex), path)
            self.assertIsNone(re.search(r"\b(type|typing|enum|eval|exec|open|input)\b", text), path)


if __name__ == "__main__":
    unittest.main()
