import ast
import importlib
import inspect
import pathlib
import unittest

PACKAGE = pathlib.Path(__file__).resolve().parent.parent / "prefixgraft"

# The names of each file, with their parameters; None where the document tells none.
INTERFACE = {
    "errors": {
        "GraftError": None, "BadPart": "path, item", "BadText": "place", "BadSurrounding": "prefix",
        "BadFilling": "hole", "BadPath": "path", "TooMany": "most", "BadQuestion": None,
        "Parts": "surrounding, filling", "Stuck": "prefix", "Missing": "name",
    },
    "parts": {
        "is_prefix": "thing", "is_local": "thing", "is_address": "thing", "is_name": "thing", "need_part": "thing",
        "holes": "part", "prefixes": "part", "paths": "part", "element_at": "part, path",
    },
    "reading": {
        "need_surrounding": "thing", "need_filling": "thing", "meaning": "part, surrounding, filling=None",
    },
    "skeletons": {
        "skeleton": "part", "is_refused": "part", "needs": "part", "hangs_on": "part", "clashes": "part",
        "state_at": "part, path, prefix",
    },
    "likeness": {"alike": "one, other", "parted": "one, other", "put": "part, hole, other"},
    "declaring": {
        "fewest": "part", "shortest": "part", "how_few": "part", "needless": "part", "paper": "part",
        "shown": "part, thing", "variant": "one, other", "keeping": "one, other",
    },
    "grafting": {"moved": "part, path, to, at", "stuck_by": "part, path, to"},
    "sealing": {
        "visible": "part, path, listed=()", "sealed": "part, surrounding, listed=()", "is_safe": "part, listed=()",
        "is_firm": "part, listed=()", "safe_list": "part", "firm_list": "part", "unsafe": "part, listed=()",
        "unfirm": "part, listed=()",
    },
    "texts": {"written": "part", "size_of": "part", "read_part": "string"},
    "library": {"Library": "", "under": "manager, deed"},
    "desk": {"Desk": ""},
}

# The methods of each class, with their parameters; None where the document tells none.
METHODS = {
    ("library", "Library"): {
        "__getitem__": None, "__setitem__": None, "__contains__": None, "__len__": None, "__eq__": None,
        "words": "self", "forget": "self, word", "replace": "self, word, part", "fill": "self, word, hole, other",
        "tidy": "self, word", "move": "self, word, path, to, at", "undo": "self", "trial": "self",
    },
    ("desk", "Desk"): {"say": "self, line"},
}


class Interface(unittest.TestCase):
    def test_each_is_defined_in_its_file(self):
        for name, wanted in INTERFACE.items():
            tree = ast.parse((PACKAGE / f"{name}.py").read_text())
            defined = [one.name for one in tree.body if isinstance(one, (ast.FunctionDef, ast.ClassDef))]
            for told in wanted:
                with self.subTest(name, told=told):
                    self.assertEqual(defined.count(told), 1)

    def test_the_arguments(self):
        for name, wanted in INTERFACE.items():
            module = importlib.import_module(f"prefixgraft.{name}")
            for told, parameters in wanted.items():
                if parameters is not None:
                    with self.subTest(name, told=told):
                        self.assertEqual(str(inspect.signature(getattr(module, told))), f"({parameters})")

    def test_each_class_has_its_own_methods(self):
        for (name, kind), wanted in METHODS.items():
            own = vars(getattr(importlib.import_module(f"prefixgraft.{name}"), kind))
            for told, parameters in wanted.items():
                with self.subTest(kind, told=told):
                    self.assertIn(told, own)
                    self.assertTrue(inspect.isfunction(own[told]))
                    if parameters is not None:
                        self.assertEqual(str(inspect.signature(own[told])), f"({parameters})")

    def test_the_property(self):
        desk = importlib.import_module("prefixgraft.desk").Desk
        self.assertIsInstance(vars(desk)["library"], property)

    def test_the_numbers(self):
        parts = importlib.import_module("prefixgraft.parts")
        for number, wanted in ((parts.MOST_ELEMENTS, 60), (parts.MOST_LEVELS, 8)):
            self.assertIs(type(number), int)
            self.assertEqual(number, wanted)


if __name__ == "__main__":
    unittest.main()
