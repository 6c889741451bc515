"""What can be seen of the package's files without running them, and that README.md tells the truth."""

import ast
import doctest
import re
import unittest
from pathlib import Path

TOP = Path(__file__).resolve().parent.parent
PACKAGE = TOP / "likespite"
FILES = sorted(PACKAGE.glob("*.py"))
LIBRARY = {"heapq", "math", "itertools", "collections", "__future__"}
INTERFACE = {
    "errors": {
        "FolkError": None, "BadWeb": ["self", "part"], "BadRules": ["self", "folk"], "BadState": None, "BadFolk": None,
        "BadLot": None, "BadRing": None, "BadNumber": None, "BadWord": None, "HasOdd": None, "HasRing": None,
        "NoEven": None, "NoOdd": None, "BadStep": None, "TooMany": ["self", "most"], "BadLine": ["self", "line"],
        "BadHeld": None,
    },
    "webs": {"looked_at": ["web", "folk"]},
    "rules": {
        "told": ["web", "rules", "state", "folk"], "is_settled": ["web", "rules", "state"], "settled": ["web", "rules"],
        "run": ["web", "rules", "state", "ticks"], "settled_by": ["web", "rules", "state"],
    },
    "rings": {
        "rings": ["web"], "parts": ["web"], "is_even": ["web", "ring"], "shows_even_ring": ["web", "value"],
        "shows_odd_ring": ["web", "value"], "at_most_one": ["web"], "at_least_one": ["web"], "just_one": ["web"],
        "even_ring": ["web"], "odd_ring": ["web"],
    },
    "sides": {"sides": ["web"], "low": ["web", "rules"], "high": ["web", "rules"]},
    "spoils": {"twofold": ["web"], "mute": ["web"]},
    "chains": {"depth": ["web"], "depths": ["web"]},
    "pins": {"pins": ["web"], "cuts": ["web", "word"], "bound": ["web"], "bound_lot": ["web"]},
    "turns": {
        "turned": ["web", "lot"], "turned_state": ["web", "state", "lot"], "turned_rules": ["web", "rules", "lot"],
    },
    "counts": {"tables": ["web", "folk"], "settled_counts": ["web"], "count_rules": ["web"]},
    "benches": {"Bench": ["self", "web", "rules", "state"]},
    "texts": {
        "web_text": ["web"], "rules_text": ["web", "rules"], "state_text": ["web", "state"], "read_web": ["text"],
        "read_rules": ["web", "text"], "read_state": ["web", "text"],
    },
    "tales": {"rules_by": ["web", "ring"], "pair_by": ["web", "ring"], "ring_tale": ["web", "ring"]},
    "holds": {
        "held_states": ["web", "rules", "held"], "holders": ["web", "rules", "state"], "deciders": ["web"],
        "decides": ["web", "lot"],
    },
    "steps": {
        "come_to": ["web", "rules", "state"], "ends": ["web", "rules"], "looks_to": ["web", "rules", "state", "goal"],
        "shows_looks_to": ["web", "rules", "state", "goal", "value"],
    },
    "signs": {"exchanged": ["web", "lot"], "exchanges": ["web", "word"], "rings_through": ["web"]},
    "desks": {"Desk": ["self", "web", "rules", "state"]},
}
# The methods and the properties that stand in a class itself.
METHODS = {
    ("benches", "Bench"): {
        "tick": ["self"], "look": ["self", "folk"], "paint": ["self", "folk", "mood"], "back": ["self"],
        "apart": ["self", "other"], "state": ["self"], "uneasy": ["self"], "near": ["self"],
    },
    ("desks", "Desk"): {"do": ["self", "line"]},
}


def tree_of(path):
    return ast.parse(path.read_text(encoding="utf-8"))


def arguments_of(node):
    """The names of the arguments of a function, or of a class's __init__; None for a class without one."""
    if isinstance(node, ast.ClassDef):
        node = next((part for part in node.body if getattr(part, "name", None) == "__init__"), None)
    return node and [argument.arg for argument in node.args.args]


class Layout(unittest.TestCase):
    def test_folder(self):
        names = [path.name for path in PACKAGE.iterdir() if path.name != "__pycache__"]
        self.assertIn("__init__.py", names)
        for name in names:
            self.assertTrue(re.fullmatch(r"[a-z0-9_]+\.py", name), name)

    def test_sizes_and_characters(self):
        for path in FILES:
            text = path.read_bytes().decode("ascii")
            lines = text.split("\n")
            self.assertLessEqual(len(lines), 399, path.name)
            for line in lines:
                self.assertLessEqual(len(line), 120, (path.name, line))
                self.assertTrue(all(" " <= sign <= "~" for sign in line), (path.name, line))
            for node in ast.walk(tree_of(path)):
                if isinstance(node, ast.FunctionDef):
                    self.assertLessEqual(node.end_lineno - node.lineno + 1, 40, (path.name, node.name))

    def test_imports(self):
        own = {f"likespite.{path.stem}" for path in FILES}
        for path in FILES:
            for node in ast.walk(tree_of(path)):
                self.assertNotIsInstance(node, ast.Import, path.name)
                if isinstance(node, ast.ImportFrom):
                    self.assertEqual(node.level, 0, path.name)
                    self.assertIn(node.module, own | LIBRARY, path.name)

    def test_no_floats_and_no_division(self):
        for path in FILES:
            for node in ast.walk(tree_of(path)):
                self.assertNotIsInstance(node, ast.Div, path.name)
                self.assertNotIsInstance(getattr(node, "value", None), float, path.name)

    def test_interface_is_defined_where_it_is_listed(self):
        for module, names in INTERFACE.items():
            body = tree_of(PACKAGE / f"{module}.py").body
            found = {node.name: arguments_of(node) for node in body if hasattr(node, "name")}
            for name, arguments in names.items():
                with self.subTest(module=module, name=name):
                    self.assertIn(name, found)
                    self.assertEqual(found[name], arguments)

    def test_methods_stand_in_the_class_itself(self):
        for (module, name), methods in METHODS.items():
            body = tree_of(PACKAGE / f"{module}.py").body
            node = next(node for node in body if isinstance(node, ast.ClassDef) and node.name == name)
            found = {part.name: arguments_of(part) for part in node.body if isinstance(part, ast.FunctionDef)}
            for method, arguments in methods.items():
                with self.subTest(module=module, method=method):
                    self.assertEqual(found.get(method), arguments)


class Readme(unittest.TestCase):
    def test_examples(self):
        failed, tried = doctest.testfile(str(TOP / "README.md"), module_relative=False, encoding="utf-8")
        self.assertGreater(tried, 0)
        self.assertEqual(failed, 0)


if __name__ == "__main__":
    unittest.main()
