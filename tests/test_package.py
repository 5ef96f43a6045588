"""What holds of the package's files themselves, and where its names stand."""
import ast
import inspect
import pathlib
import unittest

from tiedtables import (
    carrying, contents, contenttexts, deeds, desk, errors, freely, journals, leaning, orders,
    plans, plantexts, ranks, rules, running, store, ties, ways)

FOLDER = pathlib.Path(errors.__file__).parent
# Each function of the interface with its arguments, under its file.
FUNCTIONS = {
    plans: {
        "is_tables": ["thing"],
        "column_place": ["tables", "table", "column"],
        "fallback_of": ["tables", "table", "column"],
    },
    ties: {
        "is_ties": ["tables", "thing"],
        "tie_of": ["plan", "tie"],
        "ties_on": ["plan", "table"],
    },
    contents: {
        "is_content": ["tables", "thing"],
        "row_of": ["tables", "content", "table", "key"],
        "changed": ["tables", "content", "gone", "cells", "rows"],
    },
    deeds: {
        "is_deed": ["tables", "thing"],
        "own_part": ["tables", "content", "deed"],
    },
    leaning: {
        "leaning": ["plan", "content", "tie", "*key"],
        "loose": ["plan", "content", "*when"],
        "holds": ["plan", "content"],
        "leans_on": ["plan", "content", "table", "key"],
    },
    carrying: {
        "brought": ["plan", "content", "deed"],
        "bars": ["plan", "content", "deed"],
        "parts": ["plan", "content", "deed"],
        "carried": ["plan", "content", "deed"],
    },
    ways: {
        "way_to": ["plan", "content", "deed", "table", "key", "column"],
        "parting": ["plan", "content", "deed"],
        "shows_way": [
            "plan", "content", "deed", "table", "key", "column", "worth", "thing"],
        "shows_brought": ["plan", "content", "deed", "thing"],
    },
    freely: {
        "steps_next": ["plan", "content", "deed", "steps"],
        "ended": ["plan", "content", "deed", "steps"],
        "shows_order": ["plan", "content", "deed", "thing"],
    },
    rules: {
        "is_rules": ["tables", "thing"],
    },
    ranks: {
        "may_bring": ["plan", "table", "kind", "column"],
        "sets_off": ["plan"],
        "ranks": ["plan"],
        "is_ranks": ["plan", "thing"],
        "is_ring": ["plan", "thing"],
    },
    running: {
        "ran": ["plan", "content", "deed", "*order", "*most"],
    },
    journals: {
        "gone_through": ["tables", "content", "journal"],
        "source_of": ["journal", "number"],
        "shows_journal": ["tables", "content", "journal", "thing"],
    },
    orders: {
        "two_orders": ["plan", "content", "deed", "*most"],
        "meets": ["plan"],
    },
    store: {
        "Store": ["plan", "*content", "*most"],
    },
    plantexts: {
        "plan_text": ["plan"],
        "plan_from": ["text"],
    },
    contenttexts: {
        "content_text": ["tables", "content"],
        "content_from": ["tables", "text"],
    },
    desk: {
        "run": ["text"],
    },
}
# Each method of the store, with its arguments behind the store itself.
METHODS = {
    "do": ["deed"], "content": [], "row": ["table", "key"], "__len__": [], "__eq__": ["other"],
    "journal": ["*first"], "begin": [], "point": ["*name"], "back": ["*to"], "leave": [], "end": [],
    "is_open": [], "book": [], "since": ["number"], "why": ["number"], "twin": [],
}
CLASSES = [
    "TableError", "Taken", "NoRow", "Barred", "Parted", "Loose", "Stopped", "NoKey",
    "TooMany", "Ring", "BadLine", "Open", "NotOpen", "NoSuch",
]


def arguments_of(function):
    """Its arguments' names, with a * those that are told by their names alone."""
    told = inspect.signature(function).parameters.values()
    return ["*" * (one.kind == one.KEYWORD_ONLY) + one.name for one in told]


class InterfaceTest(unittest.TestCase):
    def test_functions_stand_in_their_files(self):
        for module, functions in FUNCTIONS.items():
            for name, arguments in functions.items():
                with self.subTest(name=name):
                    told = getattr(module, name)
                    self.assertEqual(told.__module__, module.__name__)
                    self.assertEqual(arguments_of(told), arguments)

    def test_methods_stand_in_the_class_itself(self):
        for name, arguments in METHODS.items():
            with self.subTest(name=name):
                self.assertEqual(arguments_of(vars(store.Store)[name])[1:], arguments)

    def test_defaults(self):
        for function, defaults in (
                (ranks.may_bring, {"column": None}), (running.ran, {"order": (), "most": 40}),
                (orders.two_orders, {"most": 5}), (store.Store, {"content": (), "most": 40}),
                (store.Store.journal, {"first": 0}), (store.Store.point, {"name": ""}),
                (store.Store.back, {"to": ""}), (leaning.loose, {"when": None}),
                (ways.way_to, {"column": None})):
            told = inspect.signature(function).parameters.values()
            given = {one.name: one.default for one in told if one.default is not one.empty}
            self.assertEqual(given, defaults)

    def test_classes_stand_in_errors(self):
        for name in CLASSES:
            with self.subTest(name=name):
                self.assertEqual(getattr(errors, name).__module__, errors.__name__)


class FilesTest(unittest.TestCase):
    def setUp(self):
        entries = [entry for entry in FOLDER.iterdir() if entry.name != "__pycache__"]
        self.sources = {entry.name: entry.read_text("utf-8") for entry in entries}

    def test_the_folder_holds_plain_files_alone(self):
        self.assertIn("__init__.py", self.sources)
        for name in self.sources:
            self.assertRegex(name, r"\A[a-z_][a-z0-9_]*\.py\Z")

    def test_signs_and_lengths(self):
        for name, source in self.sources.items():
            lines = source.split("\n")
            with self.subTest(name=name):
                self.assertLessEqual(len(lines), 399)
                self.assertLessEqual(max(map(len, lines)), 120)
                self.assertRegex(source, r"\A[ -~\n]*\Z")

    def test_functions_are_short(self):
        for name, source in self.sources.items():
            for node in ast.walk(ast.parse(source)):
                if isinstance(node, ast.FunctionDef):
                    with self.subTest(name=name, function=node.name):
                        self.assertLess(node.end_lineno - node.lineno, 40)

    def test_imports_are_from_the_package(self):
        library = ("heapq", "math", "itertools", "collections")
        for name, source in self.sources.items():
            for node in ast.walk(ast.parse(source)):
                with self.subTest(name=name):
                    self.assertNotIsInstance(node, ast.Import)
                    if isinstance(node, ast.ImportFrom):
                        self.assertEqual(node.level, 0)
                        first = node.module.split(".")[0]
                        self.assertIn(first, ("tiedtables",) + library)
