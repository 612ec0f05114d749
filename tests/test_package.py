"""2.5, 2.6 and the plainest rules of the language, over all files of the package."""

import ast
import doctest
import inspect
import pathlib
import re
import unittest

from coupledyard import (
    arrangements, counting, drags, links, nearest, pins, precedence, rounds, steps, texts, yards,
)

PACKAGE = pathlib.Path(__file__).resolve().parent.parent / "coupledyard"

SIGNATURES = {
    yards: {
        "validate_yard": "(yard)",
        "is_yard": "(value)",
        "make_yard": "(count, *couplings, low=0, high=1000)",
        "are_connected": "(yard, wagon, other)",
        "path": "(yard, wagon, other)",
        "span": "(yard, wagon, other)",
        "groups": "(yard)",
    },
    arrangements: {
        "validate_arrangement": "(yard, arrangement)",
        "is_arrangement": "(yard, value)",
        "minimum": "(yard, *arrangements)",
        "maximum": "(yard, *arrangements)",
        "distance": "(yard, start, goal)",
        "stretch": "(yard, start, goal)",
        "shifted": "(yard, arrangement, by)",
    },
    steps: {
        "possible_steps": "(yard, arrangement)",
        "is_possible": "(yard, arrangement, step)",
        "reason": "(yard, arrangement, step)",
        "after": "(yard, arrangement, schedule)",
        "states_along": "(yard, arrangement, schedule)",
        "steps_to": "(yard, start, goal)",
        "schedule_to": "(yard, start, goal)",
        "is_shortest": "(yard, arrangement, schedule)",
    },
    rounds: {
        "straight_rounds": "(yard, start, goal)",
        "straight_states": "(yard, start, goal)",
        "after_rounds": "(yard, arrangement, rounds)",
        "state_after": "(yard, start, goal, count)",
    },
    pins: {
        "validate_pins": "(yard, pins)",
        "forced": "(yard, pins, wagon)",
        "is_conflict": "(yard, pins, value)",
        "conflict_of": "(yard, pins)",
        "least_completion": "(yard, pins)",
        "greatest_completion": "(yard, pins)",
        "is_completion": "(yard, pins, value)",
    },
    drags: {
        "dragged": "(yard, arrangement, wagon, place)",
        "dragged_all": "(yard, arrangement, *drags)",
        "pushed": "(yard, arrangement, step)",
        "drag_distance": "(yard, arrangement, wagon, place)",
    },
    nearest: {
        "cost": "(yard, arrangement, targets, *, weights=None)",
        "nearest": "(yard, targets, *, weights=None, pins=())",
        "forces": "(yard, targets, *, weights=None, pins=())",
        "check_forces": "(yard, arrangement, targets, forces, *, weights=None, pins=())",
    },
    precedence: {
        "events": "(yard, start, goal)",
        "predecessors": "(yard, start, goal)",
        "is_order": "(yard, start, goal, value)",
        "ends": "(yard, start, goal, *durations)",
        "finish": "(yard, start, goal, *durations)",
        "critical_chain": "(yard, start, goal, *durations)",
    },
    counting: {
        "count_arrangements": "(yard, *, pins=())",
        "arrangements": "(yard, *, pins=())",
        "arrangement_at": "(yard, number)",
        "number_of": "(yard, arrangement)",
        "count_schedules": "(yard, start, goal)",
    },
    links: {
        "yard_of": "(*links, count, low=0, high=1000)",
    },
    texts: {
        "yard_text": "(yard)",
        "parse_yard": "(text)",
    },
}

BUILTINS = set(
    "len range enumerate zip min max sum abs sorted reversed int str bool bytes list tuple dict"
    " set isinstance ord repr any all divmod pow map iter next super property staticmethod"
    " classmethod object ValueError RuntimeError StopIteration KeyError IndexError"
    " LookupError TypeError NotImplemented".split()
)
STATEMENTS = (ast.Import, ast.ImportFrom, ast.FunctionDef, ast.ClassDef, ast.Assign, ast.Expr)


def files():
    return sorted(PACKAGE.glob("*.py"))


def trees():
    return [(path.name, ast.parse(path.read_text("ascii"))) for path in files()]


class InterfaceTest(unittest.TestCase):
    def test_signatures_and_places(self):
        for module, signatures in SIGNATURES.items():
            for name, text in signatures.items():
                with self.subTest(name):
                    function = getattr(module, name)
                    self.assertEqual(str(inspect.signature(function)), text)
                    self.assertEqual(function.__module__, module.__name__)


class ReadmeTest(unittest.TestCase):
    def test_examples(self):
        outcome = doctest.testfile(str(PACKAGE.parent / "README.md"), module_relative=False)
        self.assertGreater(outcome.attempted, 0)
        self.assertEqual(outcome.failed, 0)


class SourceTest(unittest.TestCase):
    def test_folder_holds_plain_files_only(self):
        for path in PACKAGE.iterdir():
            if path.name != "__pycache__":
                self.assertRegex(path.name, r"^(__init__|[a-z]+)\.py$")

    def test_size_and_characters(self):
        for path in files():
            text = path.read_text("ascii")
            self.assertRegex(text, r"\A[\n -~]*\Z")
            lines = text.splitlines()
            self.assertLessEqual(len(lines), 399, path.name)
            self.assertLessEqual(max(len(line) for line in lines), 120, path.name)
            self.assertIsNone(re.search("_wall|_WallAttr", text), path.name)

    def test_size_of_functions(self):
        for name, tree in trees():
            for node in ast.walk(tree):
                if isinstance(node, ast.FunctionDef):
                    self.assertLessEqual(node.end_lineno - node.lineno + 1, 40, (name, node.name))

    def test_module_level(self):
        for name, tree in trees():
            for node in tree.body:
                self.assertIsInstance(node, STATEMENTS, name)
                if isinstance(node, ast.Expr):
                    self.assertIsInstance(node.value, ast.Constant, name)

    def test_imports_from_the_package_only(self):
        for name, tree in trees():
            for node in ast.walk(tree):
                self.assertNotIsInstance(node, ast.Import, name)
                if isinstance(node, ast.ImportFrom):
                    self.assertEqual(node.level, 0, name)
                    self.assertRegex(node.module, r"^(coupledyard\.[a-z]+|heapq|math|itertools|collections)$")

    def test_no_floating_point_and_no_other_builtin(self):
        for name, tree in trees():
            bound = {node.arg for node in ast.walk(tree) if isinstance(node, ast.arg)}
            for node in ast.walk(tree):
                if isinstance(node, ast.Name) and isinstance(node.ctx, ast.Store):
                    bound.add(node.id)
                if isinstance(node, (ast.FunctionDef, ast.ClassDef)):
                    bound.add(node.name)
                if isinstance(node, ast.alias):
                    bound.add(node.name)
            for node in ast.walk(tree):
                self.assertNotIsInstance(node, ast.Div, name)
                if isinstance(node, ast.Constant):
                    self.assertNotIsInstance(node.value, (float, complex), name)
                if isinstance(node, ast.Name):
                    self.assertIn(node.id, bound | BUILTINS, name)


if __name__ == "__main__":
    unittest.main()
