"""Checks that the package keeps to its subset of Python (the rules that can be seen file by file) and its interface."""

import ast
import builtins
import importlib
import os
import unittest

FOLDER = os.path.join(os.path.dirname(os.path.dirname(os.path.abspath(__file__))), "gluedlines")

INTERFACE = {
    "errors": {"GlueError": [], "NoForm": ["__init__"], "NoText": ["__init__"], "NoGrammar": ["__init__"],
               "NoCrew": ["__init__"], "NoRows": ["__init__"], "NoRule": ["__init__"], "NotRight": ["__init__"],
               "NotEnough": ["__init__"], "NoOutput": ["__init__"], "NoChange": ["__init__"], "NoRow": ["__init__"],
               "NoName": ["__init__"]},
    "signs": {"is_line": None},
    "cells": {"cells_of": None, "started": None, "moved": None, "is_done": None},
    "patterns": {"Pattern": [],
                 "Form": ["parts", "forms", "holds", "__and__", "__or__", "__contains__", "__eq__", "__str__"],
                 "Both": ["forms", "holds", "__and__", "__or__", "__contains__", "__eq__", "__str__"],
                 "Either": ["forms", "holds", "__and__", "__or__", "__contains__", "__eq__", "__str__"]},
    "patterntexts": {"read_pattern": None},
    "scans": {"begin": None, "step": None, "truths": None, "signs_for": None},
    "looks": {"looks": None, "least_line": None, "shared_line": None},
    "grammars": {"Grammar": ["nexts", "firsts", "lasts", "longest", "__len__", "__getitem__", "__eq__", "__or__"]},
    "ways": {"ways": None, "is_way": None, "lead": None, "rest": None, "example": None},
    "outputs": {"is_record": None, "is_output": None, "cuts_of": None, "follows": None},
    "crews": {"Crew": ["__len__", "__getitem__", "__setitem__", "__add__", "__radd__", "at_once"],
              "woven": None, "is_crew_output": None},
    "rules": {"Rule": ["most", "alone", "tags", "quiet", "change", "begins", "ends", "begins_on", "ends_on",
                       "by_first", "by_last", "every_line", "is_part_of", "__eq__"], "assign": None},
    "gluers": {"Gluer": ["__call__", "pause", "finish", "waiting", "many"], "glue": None, "glue_places": None},
    "faces": {"faces": None},
    "verdicts": {"wrong_output": None, "is_right": None, "pair_table": None},
    "leastrules": {"least_rules": None, "why_none": None},
    "readings": {"ahead_needed": None, "two_outputs": None, "two_readings": None},
    "readers": {"Reader": ["__call__", "finish"]},
    "crewverdicts": {"crew_wrong": None, "breaking_number": None},
    "losses": {"loss_wrong": None},
    "middles": {"middle_most": None, "late_ends": None},
    "papers": {"right_paper": None, "wrong_paper": None},
    "checker": {"lets": None},
    "twins": {"parted": None, "parted_on": None},
    "changes": {"changed": None, "least_changes": None},
    "tables": {"table": None},
    "desk": {"Desk": ["__init__", "say", "tried"], "Trial": ["__init__", "__enter__", "__exit__"]},
}

BUILTINS = """len range enumerate zip min max sum abs sorted reversed int str bool list tuple dict set isinstance ord repr
any all divmod property staticmethod Exception ValueError TypeError KeyError IndexError LookupError NotImplemented""".split()
METHODS = """append clear copy count endswith extend find get index insert isalnum isalpha isdigit islower isspace isupper
items join keys ljust lower lstrip partition pop remove replace reverse rfind rjust rpartition rsplit rstrip setdefault
split splitlines startswith strip update upper values zfill add discard""".split()
DUNDERS = """__init__ __eq__ __repr__ __str__ __len__ __enter__ __exit__ __call__ __iter__ __and__ __or__ __add__ __radd__
__contains__ __getitem__ __setitem__""".split()
NODES_OUT = (ast.Global, ast.AsyncFunctionDef, ast.Await, ast.Div, ast.GeneratorExp, ast.MatMult, ast.ClassDef)
WORDS_OUT = ["type", "typing", "enum", "Enum", "Flag", "Generic", "Protocol", "ABC", "Meta", "dataclass", "overload"]


def sources():
    for name in sorted(os.listdir(FOLDER)):
        if name != "__pycache__":
            with open(os.path.join(FOLDER, name), encoding="utf-8") as file:
                yield name, file.read()


def trees():
    for name, text in sources():
        yield name, ast.parse(text)


def functions(tree):
    return [node for node in ast.walk(tree) if isinstance(node, ast.FunctionDef)]


def names_out(tree):
    """The names that a file uses and binds nowhere."""
    names = [node for node in ast.walk(tree) if isinstance(node, ast.Name)]
    bound = {node.id for node in names if not isinstance(node.ctx, ast.Load)}
    bound |= {node.arg for node in ast.walk(tree) if isinstance(node, ast.arg)}
    bound |= {node.name for node in ast.walk(tree) if isinstance(node, (ast.FunctionDef, ast.ClassDef, ast.ExceptHandler))}
    bound |= {alias.name for node in ast.walk(tree) if isinstance(node, ast.ImportFrom) for alias in node.names}
    return {node.id for node in names} - bound


class FilesTest(unittest.TestCase):
    def test_files(self):
        names = [name for name, _ in sources()]
        self.assertIn("__init__.py", names)
        for name in names:
            self.assertTrue(name.endswith(".py"), name)
            self.assertEqual(name, name.lower())

    def test_size_and_characters(self):
        for name, text in sources():
            lines = text.split("\n")
            self.assertLess(len(lines), 400, name)
            for line in lines:
                self.assertLessEqual(len(line), 120, (name, line))
                self.assertTrue(all(" " <= sign <= "~" for sign in line), (name, line))
                self.assertEqual(line, line.rstrip(), name)

    def test_functions_have_at_most_40_lines(self):
        for name, tree in trees():
            for node in functions(tree):
                self.assertLessEqual(node.end_lineno - node.lineno + 1, 40, (name, node.name))

    def test_imports(self):
        known = {name: self.defined(tree) for name, tree in trees()}
        for name, tree in trees():
            for node in ast.walk(tree):
                self.assertNotIsInstance(node, ast.Import, name)
                if isinstance(node, ast.ImportFrom):
                    self.assertIn(node, tree.body, name)
                    self.assertTrue(node.module.startswith("gluedlines."), name)
                    for alias in node.names:
                        self.assertIsNone(alias.asname, name)
                        self.assertIn(alias.name, known[node.module.split(".")[1] + ".py"], (name, alias.name))

    def test_imports_are_used(self):
        for name, tree in trees():
            used = {node.id for node in ast.walk(tree) if isinstance(node, ast.Name)}
            for node in tree.body:
                if isinstance(node, ast.ImportFrom):
                    self.assertLessEqual({alias.name for alias in node.names}, used, name)

    def test_imports_make_no_ring(self):
        behind = {name: [node.module.split(".")[1] + ".py" for node in tree.body if isinstance(node, ast.ImportFrom)]
                  for name, tree in trees()}
        while behind:
            free = [name for name, others in behind.items() if not set(others) & set(behind)]
            self.assertNotEqual(free, [], behind)
            behind = {name: others for name, others in behind.items() if name not in free}

    def defined(self, tree):
        names = [node.name for node in tree.body if isinstance(node, (ast.FunctionDef, ast.ClassDef))]
        return names + [node.targets[0].id for node in tree.body if isinstance(node, ast.Assign)]

    def test_module_level(self):
        for name, tree in trees():
            for node in tree.body:
                self.assertIsInstance(node, (ast.Expr, ast.ImportFrom, ast.FunctionDef, ast.ClassDef, ast.Assign), name)
                if isinstance(node, ast.Expr):
                    self.assertIsInstance(node.value, ast.Constant, name)


class WordsTest(unittest.TestCase):
    def test_statements_and_expressions(self):
        for name, tree in trees():
            for node in ast.walk(tree):
                if not (isinstance(node, ast.ClassDef) and node in tree.body):
                    self.assertNotIsInstance(node, NODES_OUT, (name, getattr(node, "lineno", 0)))
                if isinstance(node, (ast.FunctionDef, ast.ClassDef)):
                    self.assertLessEqual(len(node.decorator_list), 1, name)
                    for mark in node.decorator_list:
                        self.assertIsInstance(node, ast.FunctionDef, name)
                        self.assertIn(ast.unparse(mark), ["property", "staticmethod", node.name + ".setter"], name)
                if isinstance(node, ast.Constant):
                    self.assertNotIsInstance(node.value, (float, complex), name)
                    self.assertFalse(isinstance(node.value, str) and "%" in node.value, name)
                if isinstance(node, ast.ExceptHandler):
                    caught = node.type.elts if isinstance(node.type, ast.Tuple) else [node.type]
                    self.assertTrue(all(isinstance(error, ast.Name) for error in caught), name)
                if isinstance(node, ast.Raise) and node.exc is not None:
                    self.assertIsInstance(node.exc, ast.Call, name)

    def test_builtins(self):
        for name, tree in trees():
            self.assertLessEqual(names_out(tree), set(BUILTINS), name)

    def test_methods(self):
        own = [node.name for _, tree in trees() for node in functions(tree)]
        for name, tree in trees():
            for node in ast.walk(tree):
                if isinstance(node, ast.Call) and isinstance(node.func, ast.Attribute):
                    self.assertIn(node.func.attr, METHODS + own, name)

    def test_names(self):
        for name, tree in trees():
            fixed = [alias.name for node in tree.body if isinstance(node, ast.ImportFrom) for alias in node.names]
            fixed += [node.name for node in tree.body if isinstance(node, ast.ClassDef)]
            locals_ = [node.arg for node in ast.walk(tree) if isinstance(node, ast.arg)]
            locals_ += [node.id for node in ast.walk(tree)
                        if isinstance(node, ast.Name) and not isinstance(node.ctx, ast.Load)]
            for word in locals_:
                self.assertNotIn(word, fixed, name)
                self.assertFalse(hasattr(builtins, word), (name, word))
            for node in functions(tree):
                self.assertFalse(node.name.startswith("__") and node.name not in DUNDERS, (name, node.name))
                self.assertFalse(node in tree.body and hasattr(builtins, node.name), (name, node.name))

    def test_words_that_do_not_occur(self):
        for name, tree in trees():
            words = {node.id for node in ast.walk(tree) if isinstance(node, ast.Name)}
            words |= {node.attr for node in ast.walk(tree) if isinstance(node, ast.Attribute)}
            self.assertFalse(words & set(WORDS_OUT), name)


class InterfaceTest(unittest.TestCase):
    def test_names_and_methods_stand_where_they_are_listed(self):
        for module, things in INTERFACE.items():
            loaded = importlib.import_module("gluedlines." + module)
            for name, methods in things.items():
                thing = getattr(loaded, name)
                self.assertEqual(thing.__module__, "gluedlines." + module)
                self.assertEqual(isinstance(thing, type), methods is not None, name)
                for method in methods or []:
                    self.assertIn(method, vars(thing), (name, method))

    def test_values(self):
        self.assertIsInstance(importlib.import_module("gluedlines.signs").SIGNS, str)


if __name__ == "__main__":
    unittest.main()
