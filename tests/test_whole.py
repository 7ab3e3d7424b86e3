"""What the document promises of every call, over the whole program."""

import copy
import importlib
import itertools
import unittest

from prefixgraft.desk import Desk
from prefixgraft.errors import (
    BadFilling, BadPart, BadPath, BadQuestion, BadSurrounding, BadText, GraftError, Missing, Parts, Stuck, TooMany,
)
from prefixgraft.library import Library, under
from tests.samples import ODD, chain_of, element, hole, row_of
from tests.test_interface import INTERFACE

PART = element(
    ("p", "a"), (("p", "u"), ("q", "v")), ((("q", "b"), ("r", "c")), (("", "b"), "x")),
    ("so", element(("p", "b"), (("p", "u"), ("", "w"))), element(("", "c"), (("r", ""),), (), (element(("s", "d")),))),
)
HOLED = element(("p", "a"), (("p", "u"),), (), ("so", hole("h"), element(("q", "b"), (), (), (hole("k"), hole("i")))))
SURROUNDING = {"r": "x", "": "y", "s": "z"}
FILLING = {"h": element(("p", "a")), "k": element(), "i": row_of(3), "zz": element()}
REFUSED = element(("p", "a"), (("p", ""),))
PAPER = (("", ()), ("p", ((-1, 0),)))

# Calls of all functions of the interface but under, as (file, name, arguments).
CALLS = tuple(
    ("parts", name, (thing,))
    for name in ("is_prefix", "is_local", "is_address", "is_name") for thing in ("a", "", ("p", "a"), None)
) + tuple(
    (file, name, (part,))
    for part in (PART, HOLED, row_of(60), chain_of(8))
    for file, names in (
        ("parts", "need_part holes prefixes paths"), ("skeletons", "skeleton is_refused needs hangs_on clashes"),
        ("declaring", "fewest shortest how_few needless paper"), ("texts", "written size_of"),
    )
    for name in names.split()
) + tuple(
    (file, name, (one, other))
    for one, other in itertools.product((PART, HOLED, REFUSED), repeat=2)
    for file, name in (("likeness", "alike"), ("likeness", "parted"), ("declaring", "variant"), ("declaring", "keeping"))
) + (
    ("parts", "element_at", (PART, (2, 0))), ("reading", "need_surrounding", (SURROUNDING,)),
    ("reading", "need_filling", (FILLING,)), ("reading", "meaning", (PART, SURROUNDING)),
    ("reading", "meaning", (HOLED, {"q": "v"}, FILLING)), ("reading", "meaning", (PART, {}, None)),
    ("skeletons", "state_at", (PART, (2,), "q")), ("likeness", "put", (HOLED, "h", PART)),
    ("declaring", "shown", (PART, PAPER)), ("declaring", "shown", (PART, [])),
    ("grafting", "moved", (PART, (1,), (2, 0), 0)), ("grafting", "stuck_by", (PART, (1,), (2,))),
    ("sealing", "visible", (PART, (2,), ("q",))), ("sealing", "sealed", (PART, SURROUNDING)),
    ("sealing", "sealed", (PART, SURROUNDING, ("r", ""))), ("sealing", "is_safe", (PART,)), ("sealing", "is_firm", (PART,)),
    ("sealing", "safe_list", (PART,)), ("sealing", "firm_list", (PART,)), ("sealing", "unsafe", (PART,)),
    ("sealing", "unfirm", (PART,)), ("sealing", "unsafe", (PART, ("r",))), ("sealing", "unfirm", (PART, ("r",))),
    ("texts", "read_part", ('<a xmlns="u" b="x" p:c="@p:d">so{h}</a>',)),
)

# Wrong arguments of functions that take a PART first: what stands behind it, all of it wrong.
WRONG_BEHIND = {
    "element_at": (None,), "meaning": (None, 7), "state_at": (None, None), "alike": (None,), "parted": (None,),
    "put": (None, None), "variant": (None,), "keeping": (None,), "shown": (None,), "moved": (None, None, None),
    "stuck_by": (None, None), "visible": (None, None), "sealed": (None, None), "is_safe": (None,), "is_firm": (None,),
    "unsafe": (None,), "unfirm": (None,),
}

# Calls beside the error that each has to raise: of several that are due the first one.
FIRST_ERRORS = (
    ("element_at", (PART, (1, 0)), BadPath), ("meaning", (HOLED, [], []), BadSurrounding),
    ("meaning", (HOLED, {"p": ""}, {"h": 7}), BadSurrounding), ("meaning", (HOLED, {}, {"h": 7}), BadFilling),
    ("meaning", (HOLED, {}), BadFilling), ("meaning", (HOLED, {}, {"h": HOLED}), BadFilling),
    ("state_at", (PART, (9,), 7), BadPath), ("state_at", (PART, (), 7), BadQuestion), ("alike", (PART, 7), BadPart),
    ("parted", (element(declarations=tuple((sign, "") for sign in "abcdefghi")), 7), BadPart),
    ("parted", (element(declarations=tuple((sign, "") for sign in "abcdefghi")), PART), TooMany),
    ("put", (PART, "h", 7), BadPart), ("put", (PART, "h", PART), BadQuestion), ("put", (HOLED, "h", HOLED), BadPart),
    ("fewest", (REFUSED,), BadQuestion), ("shortest", (REFUSED,), BadQuestion), ("how_few", (REFUSED,), BadQuestion),
    ("needless", (REFUSED,), BadQuestion), ("paper", (REFUSED,), BadQuestion), ("shown", (REFUSED, None), BadQuestion),
    ("moved", (REFUSED, 7, 7, 7), BadQuestion), ("moved", (PART, 7, 7, 7), BadPath), ("stuck_by", (PART, (), 7), BadPath),
    ("visible", (HOLED, (9,), None), BadPath), ("visible", (HOLED, (), None), BadQuestion),
    ("sealed", (HOLED, None, None), BadSurrounding), ("sealed", (HOLED, {}, None), BadQuestion),
    ("sealed", (HOLED, {}), BadQuestion), ("is_safe", (REFUSED,), BadQuestion), ("is_firm", (REFUSED,), BadQuestion),
    ("unsafe", (REFUSED, ["p"]), BadQuestion), ("unfirm", (REFUSED, ["p"]), BadQuestion),
    ("safe_list", (REFUSED,), BadQuestion), ("firm_list", (HOLED,), BadQuestion),
    ("read_part", ("<a b='x'/>",), BadText), ("read_part", ('<a b="" b="">',), BadText), ("read_part", (PART,), BadText),
)


def function(file, name):
    return getattr(importlib.import_module(f"prefixgraft.{file}"), name)


def found(name):
    """The function of the interface with a name."""
    return next(function(file, name) for file, names in INTERFACE.items() if name in names)


def spoil(thing):
    """Changes all of a thing that can be changed, within it too."""
    if isinstance(thing, dict):
        for inner in list(thing.values()):
            spoil(inner)
        thing["spoilt"] = True
    elif isinstance(thing, list):
        for inner in thing:
            spoil(inner)
        thing.append("spoilt")
    elif isinstance(thing, tuple):
        for inner in thing:
            spoil(inner)


def kinds(thing):
    """The kinds of a thing and of all in it."""
    if isinstance(thing, (tuple, list)):
        return [type(thing)] + [kinds(one) for one in thing]
    if isinstance(thing, dict):
        return [type(thing)] + [(kinds(key), kinds(worth)) for key, worth in thing.items()]
    return type(thing)


class Calls(unittest.TestCase):
    def test_all_functions_are_called(self):
        wanted = {
            (file, name) for file, names in INTERFACE.items() for name in names if name.islower() and name != "under"
        }
        self.assertEqual({(file, name) for file, name, _ in CALLS}, wanted)

    def test_no_argument_is_changed_and_equal_calls_are_equal(self):
        for file, name, arguments in CALLS:
            with self.subTest(name, arguments=arguments):
                passed = copy.deepcopy(arguments)
                first = function(file, name)(*passed)
                self.assertEqual(passed, arguments)
                self.assertEqual(kinds(passed), kinds(arguments))
                other = function(file, name)(*copy.deepcopy(arguments))
                self.assertEqual(first, other)
                self.assertEqual(kinds(first), kinds(other))

    def test_what_is_returned_is_the_callers_own(self):
        for file, name, arguments in CALLS:
            if name in ("need_surrounding", "need_filling"):
                continue
            with self.subTest(name, arguments=arguments):
                passed = copy.deepcopy(arguments)
                before = copy.deepcopy(function(file, name)(*passed))
                spoil(function(file, name)(*passed))
                self.assertEqual(passed, arguments)
                self.assertEqual(function(file, name)(*passed), before)

    def test_arguments_that_change_later(self):
        for file, name, arguments in CALLS:
            if name in ("need_surrounding", "need_filling"):
                continue
            with self.subTest(name, arguments=arguments):
                passed = copy.deepcopy(arguments)
                told = function(file, name)(*passed)
                before = copy.deepcopy(told)
                spoil(passed)
                self.assertEqual(told, before)

    def test_kinds_are_plain(self):
        def check(kind):
            if isinstance(kind, (list, tuple)):
                for inner in kind:
                    check(inner)
            else:
                self.assertIn(kind, (str, int, bool, tuple, list, dict, type(None)))

        for file, name, arguments in CALLS:
            with self.subTest(name, arguments=arguments):
                check(kinds(function(file, name)(*arguments)))

    def test_bad_part_first_of_anything(self):
        called = {name for _, name, arguments in CALLS if arguments[0] in (PART, HOLED)}
        for name in sorted(called - {"is_prefix", "is_local", "is_address", "is_name"}):
            for thing in ODD + ("", "<a/>", row_of(61), chain_of(9), element(children=(hole("h"), hole("h")))):
                with self.assertRaises(BadPart, msg=name):
                    found(name)(thing, *WRONG_BEHIND.get(name, ()))

    def test_the_first_error_of_several(self):
        for name, arguments, kind in FIRST_ERRORS:
            with self.subTest(name, arguments=arguments):
                passed = copy.deepcopy(arguments)
                with self.assertRaises(GraftError) as caught:
                    found(name)(*passed)
                self.assertIs(type(caught.exception), kind)
                self.assertEqual(passed, arguments)

    def test_the_listed_ones_by_name(self):
        self.assertIsNotNone(found("meaning")(HOLED, {"q": "v"}, filling=FILLING))
        for name in ("is_safe", "is_firm", "unsafe", "unfirm"):
            self.assertEqual(found(name)(PART, listed=("r",)), found(name)(PART, ("r",)))
        self.assertEqual(found("visible")(PART, (), listed=("z",)), ("p", "q", "z"))
        self.assertEqual(found("sealed")(PART, {}, listed=("s",)), found("sealed")(PART, {}, ("s",)))

    def test_true_and_false_are_no_integers(self):
        part = element(children=(element(), element()))
        for path in ((False,), (True,), (1, True)):
            for name, rest in (("element_at", ()), ("state_at", ("p",)), ("visible", ()), ("stuck_by", ((),))):
                with self.assertRaises(BadPath):
                    found(name)(part, path, *rest)
            library = Library()
            library["a"] = part
            for arguments in ((path, (), 0), ((0,), path, 0), ((0,), (), True), ((0,), (), False)):
                with self.assertRaises(BadPath):
                    found("moved")(part, *arguments)
                with self.assertRaises(BadPath):
                    library.move("a", *arguments)
        self.assertIsNone(found("shown")(part, (("", ((False, 0),)),)))


class Together(unittest.TestCase):
    """The modules in one another's hands."""

    def test_a_desk_over_all(self):
        desk = Desk()
        library = desk.library
        self.assertEqual(desk.say("put a " + found("written")(HOLED)), "done")
        self.assertEqual(library["a"], HOLED)
        library["b"] = PART
        library.fill("a", "h", "b")
        self.assertEqual(library["a"], found("put")(HOLED, "h", PART))
        self.assertEqual(desk.say("show a"), found("written")(library["a"]))
        self.assertEqual(desk.say("few b"), str(found("how_few")(PART)))
        tidied = under(library.trial(), lambda one: (one.tidy("b"), one["b"]))
        self.assertEqual(tidied, (3, found("fewest")(PART)))
        self.assertEqual(library["b"], PART)
        self.assertEqual(found("read_part")(desk.say("show b")), PART)
        self.assertEqual([library.undo() for _ in range(4)], [True, True, True, False])
        self.assertEqual(library, Library())

    def test_each_error_of_the_program_is_met(self):
        library = Library()
        library["a"] = HOLED
        library["b"] = element(children=(element(("p", "b")), element(("", "c"), (("p", "u"),))))
        met = []
        for deed in (
            lambda: library["zz"], lambda: library.replace("a", element()), lambda: library.move("b", (0,), (1,), 0),
            lambda: library.fill("a", "zz", "b"), lambda: library.move("b", (7,), (1,), 0), lambda: library.replace("a", 7),
            lambda: found("read_part")(""), lambda: found("need_surrounding")(7), lambda: found("need_filling")(7),
            lambda: library.replace("a", element(declarations=tuple((sign, "u") for sign in "abcdefghi"))),
        ):
            with self.assertRaises((GraftError, Missing, Parts, Stuck)) as caught:
                deed()
            met.append(type(caught.exception))
        self.assertEqual(met, [
            Missing, Parts, Stuck, BadQuestion, BadPath, BadPart, BadText, BadSurrounding, BadFilling, TooMany,
        ])


if __name__ == "__main__":
    unittest.main()
