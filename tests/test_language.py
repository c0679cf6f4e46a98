"""Some rules of LANGUAGE.md that can be seen from the text of the files."""

import ast
import builtins
import pathlib
import re
import unittest

import sparehop

FILES = sorted(pathlib.Path(sparehop.__file__).parent.glob("*.py"))
BUILTINS = set(
    "len range enumerate zip min max sum abs sorted reversed int str bool list tuple dict set isinstance ord repr "
    "any all divmod pow ValueError KeyError IndexError LookupError".split())
# What doctest adds for a while is none of Python's own names.
ALL_BUILTINS = set(dir(builtins)) - {"_"}
METHODS = set("append count extend get index items join partition pop setdefault split values".split())
OWN_METHODS = {node.name for path in FILES for kind in ast.parse(path.read_text()).body if isinstance(kind, ast.ClassDef)
               for node in kind.body if isinstance(node, ast.FunctionDef)}
BARRED = "type|typing|enum|Enum|namedtuple|Protocol|Generic|register|mro|elements|open|input|law"
NODES_OUT = (
    ast.Import, ast.Global, ast.AsyncFunctionDef, ast.GeneratorExp, ast.Yield, ast.YieldFrom, ast.Lambda, ast.Div,
    ast.With, ast.Match, ast.NamedExpr, ast.AnnAssign, ast.Await,
)


class Language(unittest.TestCase):

    def test_sizes_and_characters(self):
        for path in FILES:
            text = path.read_text()
            self.assertTrue(all(" " <= letter <= "~" or letter == "\n" for letter in text), path)
            lines = text.split("\n")
            self.assertLess(len(lines), 400, path)
            self.assertLessEqual(max(map(len, lines)), 120, path)
            for node in ast.walk(ast.parse(text)):
                if isinstance(node, ast.FunctionDef):
                    self.assertLessEqual(node.end_lineno - node.lineno + 1, 40, node.name)

    def test_only_statements_and_builtins_that_are_used_here(self):
        for path in FILES:
            tree = ast.parse(path.read_text())
            for node in ast.walk(tree):
                self.assertNotIsInstance(node, NODES_OUT, path)
                if isinstance(node, ast.Name) and node.id in ALL_BUILTINS:
                    self.assertIn(node.id, BUILTINS, path)
                    self.assertIsInstance(node.ctx, ast.Load, path)
                if isinstance(node, ast.Call) and isinstance(node.func, ast.Attribute):
                    self.assertIn(node.func.attr, METHODS | OWN_METHODS, path)
                if isinstance(node, ast.Constant):
                    self.assertNotIsInstance(node.value, float)
                if isinstance(node, ast.ExceptHandler):
                    kinds = node.type.elts if isinstance(node.type, ast.Tuple) else [node.type]
                    self.assertFalse({kind.id for kind in kinds} & ALL_BUILTINS)
                if isinstance(node, ast.Raise):
                    self.assertIsInstance(node.exc, ast.Call, path)

    def test_methods_and_attributes(self):
        builtin = {name for kind in (str, int, list, dict, set, bytes, tuple) for name in dir(kind)}
        self.assertFalse((OWN_METHODS - {"__init__", "__eq__"}) & builtin)
        assigned = {node.attr for path in FILES for node in ast.walk(ast.parse(path.read_text()))
                    if isinstance(node, ast.Attribute) and isinstance(node.ctx, ast.Store)}
        self.assertFalse(assigned & OWN_METHODS)
        self.assertFalse(assigned & builtin - {"index"})

    def test_no_name_means_two_things(self):
        for path in FILES:
            tree = ast.parse(path.read_text())
            bound = [alias.name for node in tree.body if isinstance(node, ast.ImportFrom) for alias in node.names]
            bound += [node.name for node in tree.body if isinstance(node, (ast.FunctionDef, ast.ClassDef))]
            self.assertEqual(len(bound), len(set(bound)), path)
            local = {node.id for node in ast.walk(tree) if isinstance(node, ast.Name) and not
                     isinstance(node.ctx, ast.Load)} | {node.arg for node in ast.walk(tree) if isinstance(node, ast.arg)}
            self.assertFalse(local & set(bound), path)
            self.assertFalse((local | set(bound)) & ALL_BUILTINS, path)

    def test_every_function_says_what_it_is_for(self):
        for path in FILES:
            for node in ast.walk(ast.parse(path.read_text())):
                if isinstance(node, (ast.FunctionDef, ast.ClassDef)) and node.name != "__init__":
                    self.assertTrue(ast.get_docstring(node), node.name)

    def test_barred_words(self):
        for path in FILES:
            for node in ast.walk(ast.parse(path.read_text())):
                if isinstance(node, (ast.Name, ast.arg, ast.Attribute, ast.FunctionDef)):
                    word = getattr(node, "id", getattr(node, "arg", getattr(node, "attr", getattr(node, "name", ""))))
                    self.assertIsNone(re.fullmatch(BARRED, word), path)


if __name__ == "__main__":
    unittest.main()
