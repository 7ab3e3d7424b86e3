import copy
import random
import unittest

from prefixgraft.errors import BadFilling, BadPart, BadSurrounding
from prefixgraft.parts import need_part
from prefixgraft.reading import meaning, need_filling, need_surrounding
from tests.samples import ODD, Hostile, Yes, chain_of, deep_list, element, hole, row_of

EXAMPLE = ("element", ("", "a"), (("", "u"), ("p", "v")), ((("", "b"), "x"), (("p", "b"), ("", "c"))), ())
EXAMPLE_MEANS = ("element", ("u", "a"), ((("", "b"), "x"), (("v", "b"), ("u", "c"))), ())


def told(full_name, attributes=(), children=()):
    """A MEANING."""
    return ("element", full_name, attributes, children)


def quoting(name):
    """An ELEMENT with one ATTRIBUTE, whose VALUE is QUOTED."""
    return element(attributes=((("", "b"), name),))


class Surroundings(unittest.TestCase):
    def refused(self, thing, prefix):
        for asked in (need_surrounding, lambda one: meaning(element(), one), lambda one: meaning(element(), one, None)):
            with self.assertRaises(BadSurrounding) as caught:
                asked(thing)
            self.assertIs(caught.exception.prefix, prefix)

    def test_itself(self):
        for thing in ({}, {"": "u"}, {"p": "u", "": "v", "abcdefgh": "a" * 20, "xml": "xmlns"}):
            before = dict(thing)
            self.assertIs(need_surrounding(thing), thing)
            self.assertEqual(thing, before)

    def test_no_dict(self):
        for thing in ODD:
            if not isinstance(thing, dict):
                self.refused(thing, None)
        self.refused([("p", "u")], None)
        self.refused((("p", "u"),), None)
        self.refused("p", None)

    def test_wrong_keys(self):
        for key in (None, 0, True, 10 ** 30, b"p", (), ("p",), "P", "p1", "xmlns", "abcdefghi", "a" * 19999, Hostile()):
            self.refused({"p": "u", key: "u", "q": "v"}, key)

    def test_wrong_addresses(self):
        for worth in ODD + ("", "U", "a b", "a" * 21, "u\n", ("u",), ["u"]):
            self.refused({"p": "u", "q": worth}, "q")
            self.refused({"": worth, "q": "u"}, "")

    def test_the_first_key_in_the_order_of_the_dict(self):
        self.refused({"a": "u", "z": "", "b": "", 1: "u"}, "z")
        self.refused({1: "u", "z": "", "b": ""}, 1)
        self.refused({"b": "", "a": ""}, "b")
        self.refused({None: "", "a": ""}, None)


class Fillings(unittest.TestCase):
    def refused(self, thing, key):
        for asked in (need_filling, lambda one: meaning(element(), {}, one)):
            with self.assertRaises(BadFilling) as caught:
                asked(thing)
            self.assertIs(caught.exception.hole, key)

    def test_itself(self):
        for thing in ({}, {"h": element()}, {"h": element(), "abcdefgh": row_of(60), "xmlns": chain_of(8)}):
            before = copy.deepcopy(thing)
            self.assertIs(need_filling(thing), thing)
            self.assertEqual(thing, before)

    def test_no_dict(self):
        for thing in ODD:
            if not isinstance(thing, dict):
                with self.assertRaises(BadFilling) as caught:
                    need_filling(thing)
                self.assertIsNone(caught.exception.hole)
                if thing is not None:
                    self.refused(thing, None)
        self.refused([("h", element())], None)

    def test_wrong_keys(self):
        for key in (None, 0, True, 10 ** 30, b"h", (), ("h",), "", "H", "h1", "abcdefghi", "a" * 19999, Hostile()):
            self.refused({"g": element(), key: element(), "h": element()}, key)

    def test_wrong_parts(self):
        twice = element(children=(hole("g"), hole("g")))
        for worth in ODD + ("", (), "text", ("element",), element("bad"), row_of(61), chain_of(9), twice, list(element())):
            self.refused({"g": element(), "h": worth}, "h")

    def test_parts_with_holes(self):
        self.refused({"g": element(), "h": element(children=(hole("g"),))}, "h")
        self.refused({"h": element(children=("a", element(children=(element(), hole("i")))))}, "h")

    def test_the_first_key_in_the_order_of_the_dict(self):
        self.refused({"a": element(), "z": None, "b": None, 1: element()}, "z")
        self.refused({1: element(), "z": None}, 1)
        self.refused({"b": None, "a": None, "": element()}, "b")


class Meanings(unittest.TestCase):
    def test_the_example(self):
        for surrounding in ({}, {"": "w"}, {"p": "w", "q": "v"}, {"": "v", "p": "u"}):
            self.assertEqual(meaning(EXAMPLE, surrounding), EXAMPLE_MEANS)

    def test_the_default_at_elements_quoted_names_and_attributes(self):
        part = element(("", "a"), (), ((("", "b"), ("", "c")),))
        self.assertEqual(meaning(part, {}), told(("", "a"), ((("", "b"), ("", "c")),)))
        self.assertEqual(meaning(part, {"": "u"}), told(("u", "a"), ((("", "b"), ("u", "c")),)))
        inner = element(("", "a"), (("", "u"),), (), (element(("", "b"), (("", ""),), ((("", "c"), ("", "d")),)),))
        self.assertEqual(meaning(inner, {"": "v"}), told(("u", "a"), (), (told(("", "b"), ((("", "c"), ("", "d")),)),)))

    def test_bound_by_the_declaration_then_around_then_by_the_surrounding(self):
        part = element(("p", "a"), (), (), (
            element(("p", "b"), (("p", "v"),), (), (element(("p", "c")), element(("p", "d"), (("p", "w"),)))),
            element(("p", "e"), (("q", "x"),), (), (element(("q", "f")),)),
        ))
        self.assertEqual(meaning(part, {"p": "u", "q": "y"}), told(("u", "a"), (), (
            told(("v", "b"), (), (told(("v", "c")), told(("w", "d")))),
            told(("u", "e"), (), (told(("x", "f")),)),
        )))
        self.assertIsNone(meaning(part, {}))
        self.assertIsNone(meaning(part, {"": "u", "q": "u"}))

    def test_attributes_ascend_by_address_and_local(self):
        declarations = (("p", "z"), ("q", "b"))
        attributes = (
            (("p", "a"), "1"), (("q", "b"), ("p", "x")), (("", "c"), "2"), (("q", "a"), "9"), (("", "b"), ("", "a")),
        )
        self.assertEqual(meaning(element(("", "e"), declarations, attributes), {"": "zz"})[2], (
            (("", "b"), ("zz", "a")), (("", "c"), "2"), (("b", "a"), "9"), (("b", "b"), ("z", "x")), (("z", "a"), "1"),
        ))

    def test_texts_and_children_keep_their_order(self):
        part = element(children=("z", element(("", "c")), "a b", hole("h"), "./-", element(("", "b")), hole("g")))
        filling = {"g": element(("", "y")), "h": element(("", "x"))}
        self.assertEqual(meaning(part, {}, filling), told(("", "a"), (), (
            "z", told(("", "c")), "a b", told(("", "x")), "./-", told(("", "b")), told(("", "y")),
        )))

    def test_refused_by_a_name_without_an_address(self):
        self.assertIsNone(meaning(element(("p", "a")), {}))
        self.assertIsNone(meaning(element(attributes=((("p", "b"), "x"),)), {}))
        self.assertIsNone(meaning(quoting(("p", "c")), {}))
        self.assertIsNone(meaning(element(children=("a", element(children=(element(("p", "a")),)))), {"q": "u"}))
        self.assertIsNone(meaning(element(children=(hole("h"), element())), {}, {"h": element(("p", "a"))}))
        for part in (element(("p", "a")), element(attributes=((("p", "b"), "x"),)), quoting(("p", "c"))):
            self.assertIsNotNone(meaning(part, {"p": "u"}))
            back = part[:2] + ((("p", ""),),) + part[3:]
            self.assertIsNone(meaning(back, {"p": "u"}))
            self.assertIsNone(meaning(element(declarations=(("p", ""),), children=(part,)), {"p": "u"}))

    def test_a_prefix_that_is_taken_back_may_stand_unused_or_be_declared_anew(self):
        part = element(declarations=(("p", ""),), children=(element(("p", "b"), (("p", "v"),)),))
        self.assertEqual(meaning(part, {"p": "u"}), told(("", "a"), (), (told(("v", "b")),)))
        self.assertEqual(meaning(part, {}), told(("", "a"), (), (told(("v", "b")),)))

    def test_refused_by_two_attributes_with_the_same_address_and_local(self):
        part = element(attributes=((("p", "b"), "x"), (("q", "b"), "y")))
        self.assertIsNone(meaning(part, {"p": "u", "q": "u"}))
        self.assertIsNone(meaning(element(children=("a", part)), {"p": "u", "q": "u"}))
        self.assertIsNone(meaning(element(children=(hole("h"),)), {"p": "u", "q": "u"}, {"h": part}))
        self.assertEqual(meaning(part, {"p": "v", "q": "u"})[2], ((("u", "b"), "y"), (("v", "b"), "x")))
        equal = element(declarations=(("p", "u"), ("q", "u")), attributes=((("p", "b"), "x"), (("q", "b"), "x")))
        self.assertIsNone(meaning(equal, {}))
        other = element(declarations=(("p", "u"), ("q", "u")), attributes=((("p", "b"), "x"), (("q", "c"), "x")))
        self.assertEqual(meaning(other, {})[2], ((("u", "b"), "x"), (("u", "c"), "x")))

    def test_the_default_does_not_make_attributes_the_same(self):
        part = element(("", "a"), (), ((("", "b"), "x"), (("p", "b"), "y")))
        self.assertEqual(meaning(part, {"": "u", "p": "u"}), told(("u", "a"), ((("", "b"), "x"), (("u", "b"), "y"))))

    def test_holes_are_read_with_what_is_bound_where_they_stand(self):
        filled = element(("p", "x"), (), ((("", "b"), ("", "c")),))
        part = element(("", "a"), (("p", "u"),), (), (
            hole("f"),
            element(("", "b"), (("p", "v"), ("", "w")), (), (hole("g"),)),
            element(("", "c"), (("p", ""),), (), (hole("h"),)),
        ))
        with_own = ("element", ("p", "x"), (("p", "own"),), (), (element(("p", "y")),))
        filling = {"f": filled, "g": filled, "h": with_own}
        self.assertEqual(meaning(part, {"": "s", "p": "t"}, filling), told(("s", "a"), (), (
            told(("u", "x"), ((("", "b"), ("s", "c")),)),
            told(("w", "b"), (), (told(("v", "x"), ((("", "b"), ("w", "c")),)),)),
            told(("s", "c"), (), (told(("own", "x"), (), (told(("own", "y")),)),)),
        )))
        self.assertIsNone(meaning(part, {"p": "t"}, {"f": filled, "g": filled, "h": filled}))

    def test_a_declaration_of_a_hole_is_not_for_what_stands_beside_it(self):
        part = element(children=(hole("h"), element(("p", "b"))))
        self.assertIsNone(meaning(part, {}, {"h": element(declarations=(("p", "u"),))}))

    def test_what_is_filled_in_may_go_beyond_sixty_elements_and_eight_levels(self):
        part = element(children=(hole("g"), hole("h")))
        read = meaning(part, {}, {"g": row_of(60), "h": row_of(60)})
        self.assertEqual([len(child[3]) for child in read[3]], [59, 59])
        deep = element(children=(hole("h"),))
        for _ in range(7):
            deep = element(children=(deep,))
        read, levels = meaning(deep, {}, {"h": chain_of(8)}), 1
        while read[3]:
            read, levels = read[3][0], levels + 1
        self.assertEqual(levels, 16)


class Errors(unittest.TestCase):
    part = element(("p", "a"), (), (), (hole("b"), element(children=(hole("a"),)), hole("c")))

    def test_a_hole_that_is_not_filled(self):
        for filling, first in (
            (None, "a"), ({}, "a"), ({"b": element()}, "a"), ({"a": element()}, "b"), ({"c": element()}, "a"),
            ({"b": element(), "a": element()}, "c"), ({"z": element(), "a": element(), "c": element()}, "b"),
        ):
            # REFUSED or not: what is not filled is told.
            for surrounding in ({}, {"p": "u"}):
                with self.assertRaises(BadFilling) as caught:
                    meaning(self.part, surrounding, filling)
                self.assertEqual(caught.exception.hole, first)
        with self.assertRaises(BadFilling) as caught:
            meaning(self.part, {})
        self.assertEqual(caught.exception.hole, "a")

    def test_other_holes_may_be_filled(self):
        one = {"z": element(("q", "a")), "h": element(("", "b"))}
        part = element(children=(hole("h"),))
        self.assertEqual(meaning(part, {}, one), told(("", "a"), (), (told(("", "b")),)))
        self.assertEqual(meaning(element(), {}, one), told(("", "a")))
        self.assertEqual(meaning(element(), {}, {}), told(("", "a")))
        self.assertEqual(meaning(element(), {}, filling={}), told(("", "a")))
        self.assertEqual(meaning(element(), {}, filling=None), told(("", "a")))

    def test_the_order_of_errors(self):
        bad = element(children=(0,))
        with self.assertRaises(BadPart) as caught:
            meaning(bad, None, 0)
        self.assertEqual((caught.exception.path, caught.exception.item), ((), "children"))
        for filling in (0, None, {}, {"a": 0}):
            with self.assertRaises(BadSurrounding) as caught:
                meaning(self.part, {"p": ""}, filling)
            self.assertEqual(caught.exception.prefix, "p")
        with self.assertRaises(BadFilling) as caught:
            meaning(self.part, {"p": "u"}, {"z": 0})
        self.assertEqual(caught.exception.hole, "z")

    def test_a_part_of_anything(self):
        for thing in ODD + ((), "", deep_list(), Yes()):
            with self.assertRaises(BadPart) as caught:
                meaning(thing, {})
            self.assertEqual((caught.exception.path, caught.exception.item), ((), "form"))

    def test_no_argument_is_changed_or_kept(self):
        surrounding = {"p": "u", "": "v"}
        filling = {name: EXAMPLE for name in "cba"}
        first = meaning(self.part, surrounding, filling)
        self.assertEqual(surrounding, {"p": "u", "": "v"})
        self.assertEqual(filling, {name: EXAMPLE for name in "cba"})
        self.assertEqual(list(filling), ["c", "b", "a"])
        self.assertEqual(meaning(self.part, surrounding, filling), first)
        surrounding["p"] = "w"
        filling["a"] = element()
        self.assertEqual(first, told(("u", "a"), (), (EXAMPLE_MEANS, told(("v", "a"), (), (EXAMPLE_MEANS,)), EXAMPLE_MEANS)))


def filled_in(part, filling):
    """A PART with its HOLEs filled."""
    children = []
    for child in part[4]:
        if child[0] == "hole":
            children.append(filling[child[1]])
        else:
            children.append(child if isinstance(child, str) else filled_in(child, filling))
    return part[:4] + (tuple(children),)


def bound_at(around, prefix, surrounding):
    """What a PREFIX is BOUND to in the last one of ELEMENTs that stand in each other."""
    for one in reversed(around):
        for declared, address in one[2]:
            if declared == prefix:
                return address
    return surrounding.get(prefix, "")


def plain_meaning(around, surrounding):
    """The MEANING of the last one of ELEMENTs that stand in each other, told in another way than by the package."""
    here = around[-1]

    def full(name, default):
        return (bound_at(around, name[0], surrounding) if name[0] or default else "", name[1])

    rows = {}
    names = [here[1]]
    for name, value in here[3]:
        names.append(name)
        if isinstance(value, tuple):
            names.append(value)
            value = full(value, True)
        rows[full(name, False)] = value
    if any(name[0] and not full(name, True)[0] for name in names) or len(rows) < len(here[3]):
        return None
    children = [one if isinstance(one, str) else plain_meaning(around + [one], surrounding) for one in here[4]]
    if None in children:
        return None
    return told(full(here[1], True), tuple((name, rows[name]) for name in sorted(rows)), tuple(children))


class Chance:
    """PARTs, SURROUNDINGs and FILLINGs made by a seeded generator."""

    def __init__(self, seed):
        self.random = random.Random(seed)
        self.left = []

    def name(self):
        return (self.random.choice(("", "p", "p", "q")), self.random.choice("ab"))

    def part(self, levels, names=()):
        self.left = list(names)
        return self.element(levels)

    def element(self, levels):
        some = self.random
        declared = some.sample(["", "p", "q"], some.choice((0, 0, 1, 2, 3)))
        declarations = tuple((prefix, some.choice(("u", "u", "v", "w", ""))) for prefix in declared)
        attributes = {}
        for _ in range(some.choice((0, 0, 1, 2))):
            attributes[self.name()] = some.choice(("", "x", self.name()))
        children = []
        for _ in range(some.randrange(4) if levels > 1 else 0):
            kind = some.randrange(4)
            if kind == 0 and self.left:
                children.append(hole(self.left.pop()))
            elif kind == 1 and not (children and isinstance(children[-1], str)):
                children.append("text")
            else:
                children.append(self.element(levels - 1))
        return element(self.name(), declarations, tuple(attributes.items()), tuple(children))

    def surrounding(self):
        prefixes = self.random.sample(["", "p", "q"], self.random.choice((0, 1, 2, 2, 3, 3)))
        return {prefix: self.random.choice("uvw") for prefix in prefixes}


def all_in(part):
    """The ELEMENTs of what may be greater than a PART."""
    return [part] + [one for child in part[4] if child[0] == "element" for one in all_in(child)]


class ByChance(unittest.TestCase):
    def test_against_another_way_to_read(self):
        refused = 0
        for seed in range(3000):
            chance = Chance(seed)
            part = chance.part(chance.random.choice((1, 2, 2, 3)), "gh")
            filling = {name: chance.part(chance.random.choice((1, 1, 2))) for name in "gh"}
            surrounding = chance.surrounding()
            need_part(part)
            whole = filled_in(part, filling)
            wanted = plain_meaning([whole], surrounding)
            self.assertEqual(meaning(part, surrounding, filling), wanted, seed)
            if len(all_in(whole)) <= 60:
                self.assertEqual(meaning(whole, surrounding), wanted, seed)
            refused += wanted is None
        # Both kinds have to come, or nothing is tried.
        self.assertTrue(300 < refused < 2700, refused)


if __name__ == "__main__":
    unittest.main()
