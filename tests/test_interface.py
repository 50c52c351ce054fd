"""The names of the interface: that they exist, take what is written there, and stand in their files."""

import ast
import importlib
import inspect
import unittest

from tests.samples import PACKAGE

FUNCTIONS = {
    "words": {"is_word": ["strands", "word"], "undone": ["word"], "mirrored": ["word"], "turned_back": ["word"],
              "shifted": ["word"], "flipped": ["strands", "word"], "total": ["word"]},
    "moves": {"is_move": ["strands", "move"], "made": ["strands", "word", "move"],
              "leads": ["strands", "one", "moves", "other"]},
    "reducing": {"reduced": ["strands", "word"], "sense": ["word"]},
    "judging": {"judge": ["strands", "one", "other"], "accepts": ["strands", "one", "other", "paper"]},
    "ordering": {"compare": ["strands", "one", "other"], "ascending": ["strands", "words"],
                 "floor": ["strands", "word"]},
    "rows": {"plain_row": ["strands"], "half_turn": ["strands"], "row_of": ["strands", "word"],
             "crossings": ["row"], "starts": ["row"], "ends": ["row"], "followed": ["row", "other"],
             "word_of_row": ["row"]},
    "forms": {"form_of": ["strands", "word"], "form_word": ["strands", "form"],
              "product": ["strands", "one", "other"], "undone_form": ["strands", "form"],
              "is_form": ["strands", "form"]},
    "curves": {"plain_curve": ["strands"], "carried": ["curve", "word"], "curve_of": ["strands", "word"],
               "lean": ["curve"]},
    "strings": {"strings_of": ["strands", "word"], "is_plaited": ["strands", "strings"],
                "word_of_strings": ["strands", "strings"]},
    "conjugating": {"conjugate": ["strands", "one", "other"], "leads_by": ["strands", "one", "word", "other"]},
    "closing": {"pieces": ["strands", "word"], "linked": ["strands", "word"], "polynomial": ["strands", "word"],
                "colourings": ["strands", "word", "colours"]},
    "texts": {"write_word": ["strands", "word"], "read_word": ["text"], "write_paper": ["paper"],
              "read_paper": ["lines"]},
}
CLASSES = {
    "errors": ["PlaitError", "BadMove", "BadText", "NoPlait"],
}
# Each class with the arguments by which it is made, and those of its methods.
METHODS = {
    ("wordings", "Wordings"): {"__init__": ["row"], "count": [], "wording": ["place"], "place": ["word"],
                               "wordings": ["start"]},
    ("counting", "Positive"): {"__init__": ["strands"], "count": ["many"], "place": ["word"],
                               "at": ["many", "place"], "all_from": ["many", "start"]},
    ("loom", "Loom"): {"__init__": ["strands"], "put": ["place", "letters"], "take": ["place", "many"], "undo": [],
                       "redo": [], "row": [], "form": [], "curve": [], "sense": []},
}
GENERATORS = [("wordings", "Wordings", "wordings"), ("counting", "Positive", "all_from")]


def defined_in(module, kind):
    tree = ast.parse((PACKAGE / f"{module}.py").read_text(encoding="ascii"))
    return [node.name for node in tree.body if isinstance(node, kind)]


class InterfaceTest(unittest.TestCase):

    def test_functions(self):
        for module, functions in FUNCTIONS.items():
            found = importlib.import_module(f"strandsplaited.{module}")
            for name, arguments in functions.items():
                self.assertIn(name, defined_in(module, ast.FunctionDef))
                self.assertEqual(list(inspect.signature(getattr(found, name)).parameters), arguments)

    def test_classes(self):
        for module, classes in CLASSES.items():
            for name in classes:
                self.assertIn(name, defined_in(module, ast.ClassDef))

    def test_methods(self):
        for (module, name), methods in METHODS.items():
            self.assertIn(name, defined_in(module, ast.ClassDef))
            found = getattr(importlib.import_module(f"strandsplaited.{module}"), name)
            for method, arguments in methods.items():
                self.assertIn(method, vars(found))
                self.assertEqual(list(inspect.signature(vars(found)[method]).parameters), ["self"] + arguments)

    def test_generators(self):
        for module, name, method in GENERATORS:
            found = getattr(importlib.import_module(f"strandsplaited.{module}"), name)
            self.assertTrue(inspect.isgeneratorfunction(vars(found)[method]))


if __name__ == "__main__":
    unittest.main()
