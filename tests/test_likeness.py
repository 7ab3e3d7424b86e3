import copy
import itertools
import random
import unittest

from prefixgraft.errors import BadPart, BadQuestion, TooMany
from prefixgraft.likeness import alike, parted, put
from prefixgraft.parts import holes, need_part, prefixes
from prefixgraft.reading import meaning, need_filling, need_surrounding
from tests import oracles
from tests.samples import ODD, chain_of, element, hole, row_of


def surroundings(every, addresses):
    """All SURROUNDINGs that bind some of these PREFIXes, those that bind few first."""
    for many in range(len(every) + 1):
        for bound in itertools.combinations(every, many):
            for row in itertools.product(addresses, repeat=many):
                yield dict(zip(bound, row))


def parting_by_trying(one, other, every):
    """How many PREFIXes the first PARTING binds that is found by trying, or None."""
    told = sorted(set(holes(one) + holes(other)))
    fillers = [element((prefix, "zz")) for prefix in every] + [element(("", "yy")), element(declarations=(("", "u"),))]
    fillings = [dict(zip(told, row)) for row in itertools.product(fillers, repeat=len(told))]
    for surrounding in surroundings(every, ("u", "f", "g")):
        for filling in fillings:
            if meaning(one, surrounding, filling) != meaning(other, surrounding, filling):
                return len(surrounding)
    return None


class Alike(unittest.TestCase):
    def check(self, one, other, wanted):
        self.assertIs(alike(one, other), wanted)
        self.assertIs(alike(other, one), wanted)
        self.assertIs(alike(one, one), True)
        for first, second in ((one, other), (other, one)):
            self.assertIs(parted(first, second) is None, wanted)

    def test_other_prefixes_for_one_address(self):
        one = element(("p", "a"), (("p", "u"),), ((("p", "b"), ("p", "c")),))
        self.check(one, element(("q", "a"), (("q", "u"),), ((("q", "b"), ("q", "c")),)), True)
        self.check(one, element(("q", "a"), (("q", "v"),), ((("q", "b"), ("q", "c")),)), False)
        self.check(one, element(("", "a"), (("", "u"), ("q", "u")), ((("q", "b"), ("", "c")),)), True)
        self.check(one, element(("", "a"), (("", "u"),), ((("", "b"), ("", "c")),)), False)
        self.check(element(("p", "a")), element(("q", "a")), False)

    def test_declarations_farther_out(self):
        inner = element(("p", "b"))
        one = element(declarations=(("p", "u"),), children=(inner, "so", inner))
        near = element(("p", "b"), (("p", "u"),))
        self.check(one, element(children=(near, "so", near)), True)
        self.check(one, element(children=(near, "so", inner)), False)
        self.check(one, element(declarations=(("p", "u"), ("q", "v")), children=(near, "so", inner)), True)

    def test_attributes_in_another_order(self):
        rows = ((("", "b"), "x"), (("p", "b"), "y"), (("p", "c"), ("p", "x")))
        declared = (("p", "u"), ("q", "v"))
        one = element(declarations=declared, attributes=rows)
        for other in itertools.permutations(rows):
            self.check(one, element(declarations=declared[::-1], attributes=other), True)
        self.check(one, element(declarations=declared, attributes=rows[:2]), False)
        self.check(one, element(declarations=declared, attributes=rows[:2] + ((("p", "c"), ("q", "x")),)), False)
        self.check(element(attributes=rows), element(attributes=rows[::-1]), True)

    def test_children_in_another_order_and_texts(self):
        one = element(children=(element(("", "b")), "so", hole("h")))
        self.check(one, element(children=("so", element(("", "b")), hole("h"))), False)
        self.check(one, element(children=(element(("", "b")), "so ", hole("h"))), False)
        self.check(one, element(children=(element(("", "b")), "so")), False)

    def test_quoted_names(self):
        def quoting(worth, *declared):
            return element(("p", "a"), declared, ((("", "b"), worth),))

        self.check(quoting(("q", "c"), ("q", "u")), quoting(("r", "c"), ("r", "u")), True)
        self.check(quoting(("q", "c"), ("q", "u")), quoting(("", "c"), ("", "u")), True)
        self.check(quoting(("", "c"), ("", "")), quoting(("", "c")), False)
        self.check(quoting(("", "c")), quoting("c"), False)
        self.check(quoting(("q", "c")), quoting(("q", "c"), ("q", "u")), False)

    def test_holes_that_see_something_else(self):
        one = element(("p", "a"), (), (), (hole("h"),))
        for declared in ((("", "u"),), (("", ""),), (("q", "u"),), (("q", ""),)):
            self.check(one, element(("p", "a"), declared, (), (hole("h"),)), False)
            self.check(element(("p", "a"), declared), element(("p", "a")), True)
        self.check(one, element(("p", "a"), (), (), (hole("g"),)), False)
        two = element(children=(hole("g"), hole("h")))
        self.check(two, element(children=(hole("h"), hole("g"))), False)

    def test_parts_that_are_always_refused(self):
        one = element(("p", "a"), (("p", ""),))
        self.check(one, element(("", "b"), (("q", "u"), ("r", "u")), ((("q", "b"), ""), (("r", "b"), ""))), True)
        self.check(one, element(children=(hole("h"), one)), True)
        self.check(one, element(("p", "a")), False)
        self.check(one, element(), False)

    def test_more_than_eight_prefixes(self):
        declared = tuple((prefix, "u") for prefix in "abcdefghijk")
        self.assertIs(alike(element(declarations=declared), element(declarations=(("z", "u"),))), True)
        self.assertIs(alike(element(declarations=declared, children=(hole("h"),)), element()), False)

    def test_by_trying(self):
        rng = random.Random(3)
        chance = oracles.Chance(rng, addresses=("", "u"), locals_=("a",))
        same = 0
        for _ in range(250):
            one = chance.part(3, 2, holes=0.5, texts=0, declaring=0.3, attributes=0.3)
            other = chance.part(3, 2, holes=0.5, texts=0, declaring=0.3, attributes=0.3)
            if rng.random() < 0.8:
                told = {path: chance.one(declaring=0.3)[2] for path, _ in oracles.elements(one)}
                other = oracles.with_declarations(one, told)
            if len(set(holes(one) + holes(other))) > 2:
                continue
            least = parting_by_trying(one, other, ("", "p", "q"))
            same += least is None
            self.assertIs(alike(one, other), least is None)
            told = parted(one, other)
            self.assertIs(told is None, least is None)
            if told is not None:
                self.assertEqual(len(told[0]), least)
        self.assertGreater(same, 40)


class Parted(unittest.TestCase):
    def least(self, one, other, many):
        """Checks that what is told is a PARTING that binds so many PREFIXes, for just the HOLEs of both."""
        for first, second in ((one, other), (other, one)):
            told = parted(first, second)
            self.assertIs(type(told), tuple)
            surrounding, filling = told
            need_surrounding(surrounding)
            need_filling(filling)
            self.assertEqual(sorted(filling), sorted(set(holes(one) + holes(other))))
            self.assertNotEqual(meaning(first, surrounding, filling), meaning(second, surrounding, filling))
            self.assertEqual(len(surrounding), many)

    def test_without_binding_anything(self):
        self.least(element(), element(("", "b")), 0)
        self.least(element(), element(("p", "a")), 0)
        self.least(element(declarations=(("", "u"),)), element(), 0)
        self.least(element(), element(("p", "a"), (("p", ""),)), 0)
        self.least(element(children=(hole("h"),)), element(children=(hole("g"),)), 0)
        self.least(element(children=(hole("h"),)), element(), 0)
        self.least(element(children=(hole("h"),)), element(children=(element(("", "a")),)), 0)
        self.least(element(children=(hole("h"), hole("g"))), element(children=(hole("g"), hole("h"))), 0)

    def test_the_default_as_outside_and_taken_back(self):
        self.least(element(), element(declarations=(("", ""),)), 1)
        self.least(element(("p", "a"), (), ((("", "b"), ("", "c")),)),
                   element(("p", "a"), (("", ""),), ((("", "b"), ("", "c")),)), 2)

    def test_what_one_of_them_needs(self):
        self.least(element(("p", "a")), element(("p", "b")), 1)
        self.least(element(("p", "a")), element(("q", "a")), 1)
        one = element(("p", "a"), (), ((("q", "b"), ("r", "c")),))
        self.least(one, element(("p", "a"), (), ((("q", "b"), ("r", "d")),)), 3)
        self.least(one, element(("p", "a"), (), ((("q", "b"), ("s", "c")),)), 3)
        self.least(one, element(("p", "a"), (), ((("q", "b"), ("p", "c")),)), 2)
        self.least(one, element(("p", "a"), (("p", ""),)), 3)

    def test_what_a_hole_sees(self):
        def holding(*declared):
            return element(("p", "a"), declared, (), (element(("p", "b"), children=(hole("g"),)), hole("h")))

        self.least(holding(), holding(("q", "u")), 1)
        self.least(holding(), holding(("q", "")), 2)
        self.least(holding(), holding(("", "")), 2)
        self.least(holding(("q", "")), holding(("q", "u")), 1)
        self.least(holding(("q", "")), holding(("q", ""), ("r", "")), 2)
        self.least(holding(("q", "v")), holding(("q", "u")), 1)
        inner = element(("p", "a"), (), (), (element(("p", "b"), (("p", ""),)), hole("h")))
        self.least(holding(), inner, 1)

    def test_a_needed_prefix_that_a_hole_sees_taken_back(self):
        def one(*declared):
            return element(("p", "a"), children=(element(("", "b"), declared, (), (hole("h"),)),))

        self.least(one(), one(("p", "")), 1)
        self.least(one(), one(("p", "u")), 1)

    def test_clashes(self):
        rows = ((("p", "b"), "x"), (("q", "b"), "x"))
        self.least(element(attributes=rows), element(attributes=rows, declarations=(("p", "u"),)), 1)
        rows = rows + ((("r", "c"), ""),)
        self.least(element(attributes=rows), element(attributes=rows + ((("p", "d"), ""),)), 3)

    def test_none_of_alike_parts(self):
        self.assertIsNone(parted(element(), element()))
        self.assertIsNone(parted(element(("p", "a"), (("p", "u"),)), element(("q", "a"), (("q", "u"),))))
        self.assertIsNone(parted(element(("p", "a"), (("p", ""),)), element(("q", "b"), (("q", ""),))))

    def test_fresh_locals_and_addresses(self):
        letters = "abcdefghijklmnopqrstuvwxyz"
        some = tuple(element(("p", one), children=(hole("h" + one),)) for one in letters)
        one = element(("p", "a"), tuple((letter, letter) for letter in "abcdefg"), (), some)
        self.least(one, one[:4] + (some[::-1],), 1)
        self.least(one, one[:4] + (some[:-1],), 1)
        many = tuple(hole("i" + first + second + "x") for first in letters for second in letters)
        self.least(element(children=many), element(children=many[::-1]), 0)
        self.least(element(children=many), element(children=many, declarations=(("p", ""),)), 1)

    def test_what_it_tells_does_not_stand_in_the_parts(self):
        part = element(("p", "a"), children=(element(("p", "b")),))
        # Whatever is told first then stands in the PARTs themselves, where it must not be told again.
        told = parted(element(("p", "a")), element(("p", "b")))[0]["p"]
        for address in [told] + list("abcdefghijklmnopqrstuvwxyz"):
            outer = element(("p", "a"), children=(element(("q", "b"), (("q", address),)),))
            self.least(outer, part, 1)
        told = parted(element(children=(hole("h"),)), element())[1]["h"]
        for name in [told[1][1]] + list("abcdefghijklmnopqrstuvwxyz"):
            self.least(element(children=(hole("h"),)), element(children=(element(("", name)),)), 0)

    def test_too_many(self):
        eight = tuple((prefix, "u") for prefix in "abcdefgh")
        nine = element(declarations=eight, children=(element(("p", "a")),))
        quoting = element(declarations=eight, attributes=((("", "b"), ("p", "c")),))
        of_attributes = element(declarations=eight, attributes=((("p", "b"), "c"),))
        for one, other in (
            (nine, nine), (nine, element()), (element(), nine), (quoting, quoting), (of_attributes, element()),
            (element(declarations=eight), element(("p", "a"))), (element(declarations=eight + (("p", ""),)), element()),
        ):
            with self.assertRaises(TooMany) as caught:
                parted(one, other)
            self.assertEqual(caught.exception.most, 8)
        self.assertIsNone(parted(element(declarations=eight + (("", "u"),)), element(declarations=(("", "u"),))))
        self.least(element(declarations=eight + (("", "u"),)), element(("a", "b")), 0)
        for one, other in ((nine, None), (None, nine), (nine, element(("", "")))):
            with self.assertRaises(BadPart):
                parted(one, other)

    def test_great_parts(self):
        one = chain_of(8)
        self.least(one, row_of(60), 0)
        rows = tuple(element((prefix, "a"), children=(hole("h" + prefix),)) for prefix in "abcdefgh")
        one = element(children=rows + (element(),) * 51)
        self.least(one, one[:2] + ((("", ""),),) + one[3:], 9)

    def test_what_is_told_is_the_callers_own(self):
        one, other = element(("p", "a"), children=(hole("h"),)), element(("p", "b"), children=(hole("h"),))
        before = copy.deepcopy((one, other))
        first = parted(one, other)
        kept = copy.deepcopy(first)
        first[0].clear()
        first[1].clear()
        self.assertEqual(parted(one, other), kept)
        self.assertEqual((one, other), before)


class Put(unittest.TestCase):
    def test_what_comes_of_it(self):
        other = element(("p", "b"), (("p", "u"),), ((("", "c"), "x"),), ("so", hole("g")))
        self.assertEqual(put(element(children=(hole("h"),)), "h", other), element(children=(other,)))
        one = element(("q", "a"), (("q", "v"),), ((("", "b"), ("q", "c")),), (
            "x", hole("i"), "y", element(children=(hole("h"), "z")), hole("j"),
        ))
        self.assertEqual(put(one, "h", other), one[:4] + (
            ("x", hole("i"), "y", element(children=(other, "z")), hole("j")),
        ))
        self.assertEqual(put(one, "i", other), one[:4] + (("x", other) + one[4][2:],))

    def test_a_hole_with_the_string_of_the_one_that_is_filled(self):
        other = element(("", "b"), children=(hole("h"),))
        self.assertEqual(put(element(children=(hole("h"),)), "h", other), element(children=(other,)))

    def test_bad_questions_of_anything(self):
        one = element(children=(hole("h"), element(children=(hole("xmlns"),))))
        for thing in ODD + ("", "g", "H", "hh", hole("h"), ("h",), ["h"], "element"):
            with self.assertRaises(BadQuestion):
                put(one, thing, element())
        self.assertEqual(put(one, "xmlns", element()), element(children=(hole("h"), element(children=(element(),)))))

    def test_bad_part_first(self):
        one = element(children=(hole("h"),))
        for part, other, path in ((None, None, ()), (one, 7, ()), (element(("", "")), 1, ()), (one, row_of(61), (59,))):
            with self.assertRaises(BadPart) as caught:
                put(part, None, other)
            self.assertEqual(caught.exception.path, path)

    def test_what_would_be_no_part(self):
        one = element(children=("so", hole("h"), hole("g")))
        deep = element(children=(element(children=(hole("i"),)), one))
        for part, hole_told, other, path, item in (
            (one, "h", row_of(60), (1, 58), "form"), (one, "h", chain_of(8), (1,) + (0,) * 7, "form"),
            (one, "h", element(children=(hole("g"),)), (1,), "hole"),
            (deep, "h", element(children=(hole("g"),)), (1, 1), "hole"),
            (deep, "h", element(children=(hole("i"),)), (1, 1), "hole"),
            (deep, "i", element(children=(hole("h"),)), (1,), "hole"),
        ):
            with self.assertRaises(BadPart) as caught:
                put(part, hole_told, other)
            self.assertEqual((caught.exception.path, caught.exception.item), (path, item))
        self.assertEqual(len(prefixes(put(one, "h", row_of(59)))), 1)
        need_part(put(one, "h", chain_of(7)))

    def test_as_with_the_other_as_the_filling(self):
        chance = oracles.Chance(random.Random(5))
        put_in = 0
        for _ in range(150):
            one = chance.part(4, 3, holes=0.6)
            other = chance.part(3, 3, holes=0)
            for told in holes(one)[:1]:
                put_in += 1
                filling = {hole: element(("p", "a")) for hole in holes(one)}
                filling[told] = other
                for surrounding in surroundings(("", "p", "q"), ("u", "w")):
                    self.assertEqual(
                        meaning(put(one, told, other), surrounding, filling), meaning(one, surrounding, filling)
                    )
        self.assertGreater(put_in, 60)

    def test_alike_parts_stay_alike(self):
        one = element(("p", "a"), (("p", "u"),), (), (hole("h"),))
        other = element(("p", "a"), (("p", "u"),), (), (hole("h"),))
        inner, like = element(("q", "a"), (("q", "v"),)), element(("r", "a"), (("r", "v"),))
        self.assertIs(alike(put(one, "h", inner), put(other, "h", like)), True)

    def test_no_argument_is_changed(self):
        one, other = element(children=(hole("h"), "so")), element(children=(hole("g"),))
        before = copy.deepcopy((one, other))
        self.assertEqual(put(one, "h", other), put(one, "h", other))
        self.assertEqual((one, other), before)


class BadParts(unittest.TestCase):
    def test_of_anything_that_of_the_first_argument(self):
        wrong = element(children=(element(("", "A")),))
        for asked in (alike, parted, lambda one, other: put(one, "h", other), lambda one, other: put(one, 1, other)):
            for thing in ODD + (row_of(61), chain_of(9)):
                with self.assertRaises(BadPart):
                    asked(thing, element())
                with self.assertRaises(BadPart):
                    asked(element(), thing)
            for one, other, path in ((wrong, None, (0,)), (None, wrong, ()), (element(), wrong, (0,))):
                with self.assertRaises(BadPart) as caught:
                    asked(one, other)
                self.assertEqual(caught.exception.path, path)


if __name__ == "__main__":
    unittest.main()
