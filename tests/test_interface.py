"""The interface: every name is there, under its module, with its arguments."""

import importlib
import inspect
import unittest

from kinddeeds import errors
from kinddeeds.found import Found
from kinddeeds.lore import Lore
from kinddeeds.making import made
from kinddeeds.runs import ByKinds, ByTables, Run

FUNCTIONS = {
    "kinds": ["is_name(thing)", "is_kind(thing)", "size_of(kind)", "opens_of(kind)", "put(kind, places)"],
    "fitting": ["fitted(pairs)"],
    "rows": ["checked(thing)", "nodes_of(expression)"],
    "trees": ["tree_of(lore, cls, kind)", "tree_by(lore, given, cls, kind)", "elder_tree(lore, row, elder)",
              "closed(lore, tree, trees)"],
    "pairs": ["pairs_of(lore, told, row)"],
    "making": ["made(found)"],
    "reader": ["read_kind(text)", "read_expression(text)"],
    "notes": ["read(text)", "show(program)", "show_kind(kind)", "show_expression(expression)", "show_value(value)",
              "answers(text)"],
}
CLASSES = {
    Lore: ["Lore(program)", "rows()", "many_of(kind)", "forms_of(kind)", "kind_of_form(form)", "elders_of(cls)",
           "far_elders(cls)", "deed_of(name)", "deeds_of(cls)", "house_of(cls, kind)", "needs_of(row)",
           "body_of(row, deed)"],
    Found: ["Found(program)", "lore()", "told(name)", "kind_at(row, node)", "puts_at(row, node)", "trees_at(row, node)"],
    ByKinds: ["ByKinds(found)", "asked(number)"],
    ByTables: ["ByTables(program)", "asked(number)"],
}
ERRORS = ["NoProgram", "Twice", "NoSuch", "Miscount", "Ring", "Open", "Lacks", "NoHouse", "Unfit", "TooGreat", "TooLong",
          "NoWords"]


class Interface(unittest.TestCase):
    def test_functions(self):
        for module, told in FUNCTIONS.items():
            for text in told:
                name = text.split("(")[0]
                function = getattr(importlib.import_module("kinddeeds." + module), name)
                self.assertEqual(name + str(inspect.signature(function)), text)

    def test_classes(self):
        for one, told in CLASSES.items():
            self.assertEqual(one.__name__ + str(inspect.signature(one)), told[0])
            for text in told[1:]:
                name = text.split("(")[0]
                arguments = str(inspect.signature(getattr(one, name))).replace("self, ", "").replace("self", "")
                self.assertEqual(name + arguments, text)

    def test_made_and_asked_by_the_names_of_arguments(self):
        found = Found(program=[("def", "f", (), ("number", 1)), ("ask", ("call", "f", ()))])
        self.assertEqual(ByKinds(found=found).asked(number=0), (1, 1))
        self.assertEqual(ByTables(program=made(found=found)).asked(number=0), (1, 1))
        self.assertEqual(found.kind_at(row=1, node=1), ("whole",))
        self.assertTrue(issubclass(ByKinds, Run) and issubclass(ByTables, Run))

    def test_errors(self):
        self.assertEqual(errors.DeedsError.__bases__, (ValueError,))
        for name in ERRORS:
            error = getattr(errors, name)
            self.assertEqual(error.__bases__, (errors.DeedsError,))
            self.assertEqual(error((3, 4)).place, (3, 4))
            self.assertIsNone(error(place=None).place)


if __name__ == "__main__":
    unittest.main()
