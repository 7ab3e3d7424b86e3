import copy
import itertools
import random
import unittest

from prefixgraft.errors import BadPart, BadPath, BadQuestion, BadSurrounding
from prefixgraft.parts import holes, need_part, paths
from prefixgraft.reading import meaning, need_surrounding
from prefixgraft.sealing import firm_list, is_firm, is_safe, safe_list, sealed, unfirm, unsafe, visible
from prefixgraft.skeletons import is_refused
from tests import oracles
from tests.samples import ODD, Hostile, Yes, element, hole, row_of

# What the document tells: an attribute called kind with the value p:x.
EXAMPLE = ("element", ("", "a"), (), ((("", "kind"), ("p", "x")),), ())

NO_LISTS = tuple(
    thing for thing in ODD if not isinstance(thing, tuple) or not all(isinstance(one, str) for one in thing)
) + (
    "p", ["p"], {"p": "u"}, ("p", "p"), ("", ""), ("p", "q", "p"), ("P",), ("p q",), ("xmlns",), ("abcdefghi",), ("p", None),
    ("p", 1), (("p",),), ("p", ["q"]), (b"p",), (Hostile(),), (Yes(),), ("p", Yes()), ("p:",), ("-",),
)
LISTS = ((), ("p",), ("",), ("q", "", "p"), ("abcdefgh",), ("zz", "p"))

ALWAYS_REFUSED = (
    element(("p", "a"), (("p", ""),)),
    element(attributes=((("", "b"), ("p", "c")),), declarations=(("p", ""),)),
    element(declarations=(("p", "u"), ("q", "u")), attributes=((("p", "b"), "x"), (("q", "b"), "x"))),
)


def quoting(name, declarations=(), children=(), own=("", "a")):
    """An ELEMENT with one ATTRIBUTE, whose VALUE is QUOTED."""
    return element(own, declarations, ((("", "b"), name),), children)


class Visible(unittest.TestCase):
    def test_names_of_the_element_and_of_attributes(self):
        part = element(
            ("p", "a"), (("z", "u"), ("y", "v")),
            ((("q", "b"), "x"), (("", "c"), ("r", "d")), (("s", "c"), ("t", "d"))),
            (element(("", "a"), (), ((("p", "b"), "x"),)), "so", element(("k", "a"), (), ((("", "b"), ("", "c")),))),
        )
        self.assertEqual(visible(part, ()), ("p", "q", "s"))
        self.assertEqual(visible(part, (0,)), ("", "p"))
        self.assertEqual(visible(part, (2,)), ("k",))

    def test_a_list(self):
        part = element(("p", "a"), (), ((("q", "b"), ("r", "c")),), (element(("", "b")),))
        self.assertEqual(visible(part, (), ("r",)), ("p", "q", "r"))
        self.assertEqual(visible(part, (), ("r", "", "p", "abcdefgh")), ("", "abcdefgh", "p", "q", "r"))
        self.assertEqual(visible(part, (0,), listed=("p",)), ("", "p"))
        self.assertEqual(visible(part, (0,), ()), ("",))
        self.assertEqual(visible(part, (0,), ("",)), ("",))

    def test_the_default(self):
        self.assertEqual(visible(element(), ()), ("",))
        self.assertEqual(visible(element(("p", "a"), (), ((("", "b"), "x"),)), ()), ("p",))
        self.assertEqual(visible(element(("p", "a"), (("", "u"),), ((("", "b"), ("", "x")),)), ()), ("p",))
        self.assertEqual(visible(element(("p", "a")), (), ("",)), ("", "p"))

    def test_refused_parts_have_visible_prefixes(self):
        self.assertEqual([visible(part, ()) for part in ALWAYS_REFUSED], [("p",), ("",), ("", "p", "q")])

    def test_by_chance(self):
        rng = random.Random(16)
        chance = oracles.Chance(rng)
        for _ in range(300):
            part = chance.part(holes=0)
            for path, one in oracles.elements(part):
                for listed in ((), ("q",), ("z", "")):
                    self.assertEqual(visible(part, path, listed), tuple(sorted(oracles.visible(one, listed))))


class Sealed(unittest.TestCase):
    def check(self, part, surrounding, wanted, listed=()):
        self.assertEqual(sealed(part, surrounding, listed), wanted)
        self.assertEqual(oracles.sealed(part, surrounding, listed), wanted)
        need_part(wanted)

    def test_the_example(self):
        for surrounding in ({}, {"p": "u"}, {"p": "v", "q": "w"}):
            self.check(EXAMPLE, surrounding, EXAMPLE)
        self.check(EXAMPLE, {"": "u"}, quoting(("p", "x"), (("", "u"),))[:3] + EXAMPLE[3:])
        self.check(EXAMPLE, {"p": "u"}, EXAMPLE[:2] + ((("p", "u"),),) + EXAMPLE[3:], ("p",))

    def test_only_what_is_visible_is_declared(self):
        part = element(("p", "a"), (("p", "u"), ("q", "v"), ("", "w")), (), (element(("q", "b")), element(("", "c"))))
        self.check(part, {"p": "x", "z": "x"}, element(("p", "a"), (("p", "u"),), (), (
            element(("q", "b"), (("q", "v"),)), element(("", "c"), (("", "w"),)),
        )))
        self.check(part, {}, element(("p", "a"), (("", "w"), ("p", "u"), ("q", "v")), (), (
            element(("q", "b")), element(("", "c")),
        )), ("q", ""))

    def test_the_surrounding_is_declared(self):
        part = element(("p", "a"), (), ((("q", "b"), "x"),), (element(("p", "b")), element(("", "c"))))
        self.check(part, {"p": "u", "q": "v", "": "w", "r": "x"}, element(
            ("p", "a"), (("p", "u"), ("q", "v")), ((("q", "b"), "x"),),
            (element(("p", "b")), element(("", "c"), (("", "w"),))),
        ))
        self.check(part, {}, part)
        self.check(part, {"q": "v"}, element(
            ("p", "a"), (("q", "v"),), ((("q", "b"), "x"),), (element(("p", "b")), element(("", "c"))),
        ))

    def test_nothing_is_declared_again(self):
        inner = element(("p", "b"), (("p", "u"),))
        part = element(("p", "a"), (("p", "u"),), (), (inner, element(("q", "c"), (), (), (inner,))))
        self.check(part, {"q": "v"}, element(("p", "a"), (("p", "u"),), (), (
            element(("p", "b")), element(("q", "c"), (("q", "v"),), (), (element(("p", "b")),)),
        )))

    def test_side_by_side_each_declares(self):
        inner = element(("p", "b"), (("p", "u"),))
        self.check(element(children=(inner, inner)), {}, element(children=(inner, inner)))
        around = element(declarations=(("p", "u"),), children=(element(("p", "b")), element(("p", "b"))))
        self.check(around, {}, element(children=(inner, inner)))

    def test_what_is_taken_back(self):
        part = element(declarations=(("", "u"),), children=(element(declarations=(("", ""),), children=(element(),)),))
        self.check(part, {}, part)
        self.check(part, {"": "v"}, part)
        part = element(("", "a"), (("", ""),), (), (element(("p", "b"), (("p", ""),)),))
        self.check(part, {"": "u", "p": "v"}, element(children=(element(("p", "b")),)))
        part = element(("p", "a"), (("p", "u"),), (), (element(("p", "b"), (("p", ""),)),))
        self.check(part, {}, part)
        # The one between does not see p, which is bound and taken back again unseen.
        part = element(("p", "a"), (("p", "u"),), (), (
            element(("", "b"), (("p", ""),), (), (element(("p", "c"), (("p", "u"),)),)),
        ))
        self.check(part, {}, element(("p", "a"), (("p", "u"),), (), (element(("", "b"), (), (), (element(("p", "c")),)),)))
        self.check(part, {}, part, ("p",))

    def test_declarations_ascend(self):
        part = element(("q", "a"), (("q", "u"), ("", "v"), ("p", "w")), ((("p", "b"), "x"),), ())
        self.check(part, {"r": "x"}, part[:2] + ((("", "v"), ("p", "w"), ("q", "u"), ("r", "x")),) + part[3:], ("r", ""))

    def test_a_list_that_binds_nothing(self):
        for listed in LISTS:
            self.check(row_of(3), {}, row_of(3), listed)

    def test_texts_and_attributes_stay(self):
        part = element(("", "a"), (("", "u"),), ((("q", "b"), "x"), (("", "b"), ("p", "c"))), ("so", element(), "to"))
        self.check(part, {"q": "v"}, part[:2] + ((("", "u"), ("q", "v")),) + part[3:])

    def test_always_refused_parts_have_one(self):
        one, other, two = ALWAYS_REFUSED
        self.check(one, {"p": "u"}, element(("p", "a")))
        self.check(other, {"p": "u"}, other[:2] + ((),) + other[3:])
        self.check(two, {}, two)

    def test_the_greatest(self):
        part = row_of(60)
        self.check(part, {"": "u"}, element(declarations=(("", "u"),), children=part[4]))

    def test_by_chance(self):
        rng = random.Random(161)
        chance = oracles.Chance(rng)
        every = list(oracles.surroundings(("", "p", "q"), ("u", "v")))
        for _ in range(500):
            part = chance.part(many=6, holes=0)
            for surrounding in [{}] + rng.sample(every, 3):
                for listed in ((), ("q",), ("", "p")):
                    self.assertEqual(sealed(part, surrounding, listed), oracles.sealed(part, surrounding, listed))

    def test_the_facts(self):
        rng = random.Random(162)
        chance = oracles.Chance(rng)
        for _ in range(300):
            part = chance.part(many=6, holes=0)
            for listed in ((), ("p",), ("", "q")):
                form = sealed(part, {}, listed)
                self.assertEqual(sealed(form, {}, listed), form)
                for path, one in oracles.elements(part):
                    for prefix in [one[1][0]] + [name[0] for name, _ in one[3] if name[0] != ""] + list(listed):
                        self.assertEqual(
                            oracles.bound(form, path, prefix, {}), oracles.bound(part, path, prefix, {}),
                        )


def meanings_by_form(part, prefixes, addresses, listed, others):
    """The MEANINGs by SEALED forms, of some PARTs in all SURROUNDINGs of these ADDRESSes."""
    found = {}
    for other in others:
        for surrounding in oracles.surroundings(prefixes, addresses):
            found.setdefault(sealed(other, surrounding, listed), set()).add(meaning(other, surrounding))
    return found


def is_safe_by_trying(part, listed):
    """Whether a small PART of the PREFIXes "" and p, and of the ADDRESS u, is SAFE."""
    every = meanings_by_form(part, ("", "p"), ("u", "v"), listed, oracles.variants(part, ("", "p"), ("u", "v")))
    own = meanings_by_form(part, ("", "p"), ("u", "v"), listed, (part,))
    return all(len(every[form]) == 1 for form in own)


def is_firm_by_trying(part, listed):
    """Whether a PART of the PREFIXes "", p and q, and of the ADDRESSes u and v, is FIRM."""
    own = meanings_by_form(part, ("", "p", "q"), ("u", "v", "w", "x"), listed, (part,))
    return all(len(meanings) == 1 for meanings in own.values())


def balanced(made, asked, many):
    """So many PARTs of which a question is true, and so many of which it is not, all unlike and none ALWAYS REFUSED."""
    found = {True: [], False: []}
    while min(len(parts) for parts in found.values()) < many:
        part = made()
        if not is_refused(part) and part not in found[asked(part)] and len(found[asked(part)]) < many:
            found[asked(part)].append(part)
    return found[True] + found[False]


class Told(unittest.TestCase):
    """What Safe and Firm have in common: a question about a PART and a LIST, and its least LIST."""

    def check(self, part, wanted, hidden=()):
        """Checks a PART that is SAFE or FIRM without a LIST, or is not, and its least LIST."""
        self.assertIs(self.asked(part), wanted)
        self.assertEqual(self.least(part), hidden)
        self.assertIs(self.asked(part, hidden), True)
        self.witness(part, ())
        for listed in itertools.combinations(sorted({"", "p", "q", *hidden}), 2):
            self.assertIs(self.asked(part, listed), set(hidden) <= set(listed))
            self.witness(part, listed)


class Safe(Told):
    asked = staticmethod(is_safe)
    least = staticmethod(safe_list)

    def witness(self, part, listed):
        """Checks what is told of a PART, SAFE or not."""
        told = unsafe(part, listed)
        self.assertIs(told is None, is_safe(part, listed))
        if told is None:
            return
        self.assertIs(type(told), tuple)
        one, other, its = told
        need_surrounding(one)
        need_surrounding(its)
        self.assertIsNot(one, its)
        self.assertEqual(holes(need_part(other)), ())
        self.assertEqual(oracles.sealed(part, one, listed), oracles.sealed(other, its, listed))
        self.assertEqual(sealed(part, one, listed), sealed(other, its, listed))
        self.assertNotEqual(meaning(part, one), meaning(other, its))

    def test_without_quoted_names(self):
        self.check(element(), True)
        self.check(element(("p", "a"), (("q", "u"),), ((("r", "b"), "x"),), (element(("", "b")), "so")), True)

    def test_a_quoted_name(self):
        self.check(EXAMPLE, False, ("p",))
        self.check(quoting(("", "c")), True)
        self.check(quoting(("p", "c"), own=("p", "a")), True)
        self.check(quoting(("", "c"), own=("p", "a")), False, ("",))
        self.check(quoting(("p", "c"), (("p", "u"),)), False, ("p",))
        self.check(quoting(("p", "c"), (("p", "u"),), (element(("p", "b")),)), False, ("p",))
        self.check(quoting(("p", "c"), (), (element(("p", "b"), (("p", "u"),)), "so", element(("p", "d")))), False, ("p",))

    def test_beside_an_attribute_of_its_prefix(self):
        self.check(element(attributes=((("p", "b"), ("p", "c")),)), True)
        self.check(element(attributes=((("p", "b"), "x"), (("", "b"), ("p", "c")))), True)
        self.check(element(attributes=((("p", "b"), ("q", "c")),)), False, ("q",))
        # The name of an attribute is never read by the default.
        self.check(element(("p", "a"), (), ((("", "b"), ("", "c")),)), False, ("",))

    def test_in_another_element_it_is_seen(self):
        seen = element(("p", "b"))
        self.check(element(("p", "a"), (("p", "u"),), (), (quoting(("p", "c")),)), False, ("p",))
        self.check(element(children=(seen, quoting(("p", "c")))), False, ("p",))
        self.check(quoting(("p", "c"), children=(seen,)), False, ("p",))

    def test_several(self):
        part = element(children=(quoting(("q", "c")), quoting(("p", "c")), quoting(("q", "c"), own=("q", "a")), quoting(("", "c"))))
        self.check(part, False, ("p", "q"))
        self.assertIs(is_safe(part, ("p",)), False)
        self.assertIs(is_safe(part, ("q", "zz", "p")), True)
        self.assertIs(is_safe(part, listed=("p", "q")), True)

    def test_what_is_taken_back_or_declared_within(self):
        self.check(quoting(("", "c"), (("", ""),), own=("p", "a")), False, ("",))
        inner = element(("", "b"), (("", "v"),), (), (element(("", "c"), (("", ""),)),))
        self.check(quoting(("", "c"), (("", "u"),), (inner, "so", element(("", "d")))), True)
        self.check(quoting(("", "c"), (("", "u"),), (inner, "so", element(("", "d"))), ("p", "a")), False, ("",))

    def test_a_clash_is_not_met(self):
        attributes = ((("p", "b"), ("r", "c")), (("q", "b"), "x"), (("", "d"), ("s", "c")))
        part = element(("", "a"), (("s", "v"),), attributes, ())
        self.check(part, False, ("r", "s"))
        self.check(element(declarations=(("p", "u"),), children=(part,)), False, ("r", "s"))

    def test_by_trying(self):
        rng = random.Random(17)
        chance = oracles.Chance(rng, prefixes=("", "p"), addresses=("", "u"), locals_=("a",), quoted=0.6)
        some = balanced(lambda: chance.part(many=2, levels=2, holes=0, texts=0, attributes=0.6), is_safe, 13)
        for part in some + [quoting(("p", "c"), (("p", "u"),), (element(("p", "a")),))]:
            for listed in rng.sample(((), ("p",), ("",), ("p", "")), 2):
                with self.subTest(part, listed=listed):
                    self.assertIs(is_safe(part, listed), is_safe_by_trying(part, listed))

    def test_by_chance(self):
        rng = random.Random(171)
        chance = oracles.Chance(rng, quoted=0.5)
        told = 0
        for _ in range(600):
            part = chance.part(many=6, holes=0, attributes=0.7)
            if is_refused(part):
                continue
            for listed in ((), ("p",), ("q", ""), ("", "p", "q")):
                self.witness(part, listed)
                told += not is_safe(part, listed)
            least = safe_list(part)
            for many in range(4):
                for listed in itertools.combinations(("", "p", "q"), many):
                    self.assertIs(is_safe(part, listed), set(least) <= set(listed))
        self.assertGreater(told, 200)

    def test_a_great_one(self):
        quoted = quoting(("p", "c"), children=("so",))
        part = element(("p", "a"), (("p", "u"),), (), (quoted,) * 59)
        self.assertEqual(safe_list(part), ("p",))
        self.witness(part, ())


class Firm(Told):
    asked = staticmethod(is_firm)
    least = staticmethod(firm_list)

    def witness(self, part, listed):
        """Checks what is told of a PART, FIRM or not."""
        told = unfirm(part, listed)
        self.assertIs(told is None, is_firm(part, listed))
        if told is None:
            return
        self.assertIs(type(told), tuple)
        one, other = told
        need_surrounding(one)
        need_surrounding(other)
        self.assertEqual(oracles.sealed(part, one, listed), oracles.sealed(part, other, listed))
        self.assertEqual(sealed(part, one, listed), sealed(part, other, listed))
        self.assertNotEqual(meaning(part, one), meaning(part, other))

    def test_without_quoted_names(self):
        self.check(element(), True)
        self.check(element(("p", "a"), (), ((("q", "b"), "x"),), (element(("", "b")), "so")), True)

    def test_a_quoted_name(self):
        self.check(EXAMPLE, False, ("p",))
        self.check(quoting(("", "c")), True)
        self.check(quoting(("", "c"), own=("p", "a")), False, ("",))
        self.check(quoting(("p", "c"), own=("p", "a")), True)

    def test_what_the_part_says_itself(self):
        self.check(quoting(("p", "c"), (("p", "u"),)), True)
        self.check(element(declarations=(("p", "u"),), children=(quoting(("p", "c")),)), True)
        self.check(quoting(("", "c"), (("", ""),), own=("p", "a")), True)
        self.assertIs(is_safe(quoting(("p", "c"), (("p", "u"),))), False)

    def test_where_it_is_seen_as_outside(self):
        seen = element(("p", "b"))
        bound = element(("p", "b"), (("p", "u"),))
        self.check(quoting(("p", "c"), children=(seen,)), True)
        self.check(element(children=(quoting(("p", "c")), "so", seen)), True)
        self.check(element(("p", "a"), children=(quoting(("p", "c")),)), True)
        self.check(quoting(("p", "c"), children=(bound,)), False, ("p",))
        self.check(element(children=(quoting(("p", "c")), bound)), False, ("p",))
        self.check(element(children=(quoting(("p", "c")), bound, element(attributes=((("p", "b"), "x"),)))), True)

    def test_the_default_is_not_seen_by_attributes(self):
        self.check(element(("p", "a"), (), ((("", "b"), ("", "c")),)), False, ("",))
        self.check(element(("p", "a"), (), ((("", "b"), ("", "c")),), (element(),)), True)
        taken = element(declarations=(("", ""),))
        self.check(element(("p", "a"), (), ((("", "b"), ("", "c")),), (taken,)), False, ("",))

    def test_several(self):
        part = element(children=(quoting(("q", "c")), quoting(("p", "c")), quoting(("r", "c"), own=("r", "a"))))
        self.check(part, False, ("p", "q"))
        self.assertIs(is_firm(part, ("p",)), False)
        self.assertIs(is_firm(part, listed=("q", "zz", "p")), True)

    def test_by_trying(self):
        rng = random.Random(18)
        chance = oracles.Chance(rng, quoted=0.6)
        for part in balanced(lambda: chance.part(many=4, holes=0, texts=0, declaring=0.2), is_firm, 40):
            for listed in rng.sample(((), ("p",), ("q", ""), ("", "p", "q")), 2):
                with self.subTest(part, listed=listed):
                    self.assertIs(is_firm(part, listed), is_firm_by_trying(part, listed))

    def test_by_chance(self):
        rng = random.Random(181)
        chance = oracles.Chance(rng, quoted=0.5)
        told = 0
        for _ in range(600):
            part = chance.part(many=4, holes=0, declaring=0.15, attributes=0.7)
            if is_refused(part):
                continue
            least = firm_list(part)
            self.assertLessEqual(set(least), set(safe_list(part)))
            for many in range(4):
                for listed in itertools.combinations(("", "p", "q"), many):
                    self.assertIs(is_firm(part, listed), set(least) <= set(listed))
                    self.assertLessEqual(is_safe(part, listed), is_firm(part, listed))
                    self.witness(part, listed)
                    told += not is_firm(part, listed)
        self.assertGreater(told, 200)


# Each function with a LIST, as one of a PART and a LIST.
LISTED = (
    lambda part, listed: visible(part, (), listed),
    lambda part, listed: sealed(part, {}, listed),
    is_safe, is_firm, unsafe, unfirm,
)


class Errors(unittest.TestCase):
    def test_bad_part_first(self):
        for thing in ODD + (row_of(61), element(("xmlns", "a"))):
            for asked in LISTED[2:] + (lambda part, listed: sealed(part, None, listed), lambda part, listed: visible(part, None, listed)):
                with self.assertRaises(BadPart):
                    asked(thing, None)
            for asked in (safe_list, firm_list):
                with self.assertRaises(BadPart):
                    asked(thing)
        twice = element(children=(hole("h"), hole("h")))
        for asked in LISTED:
            with self.assertRaises(BadPart) as caught:
                asked(twice, ("p", "p"))
            self.assertEqual((caught.exception.path, caught.exception.item), ((), "hole"))

    def test_bad_path_by_visible(self):
        part = element(children=("so", element(), hole("h")))
        for path in [thing for thing in ODD if not isinstance(thing, tuple)] + [(0,), (2,), (3,), (-1,), (True,), (1, 0), ("1",), "", [1]]:
            for listed in ((), None, ("p", "p")):
                with self.assertRaises(BadPath) as caught:
                    visible(part, path, listed)
                self.assertIs(caught.exception.path, path)
        for path in paths(part):
            with self.assertRaises(BadQuestion):
                visible(part, path)

    def test_bad_surrounding_by_sealed(self):
        for part in (element(), element(children=(hole("h"),))):
            for surrounding, wrong in ((None, None), ([], None), ({"p": ""}, "p"), ({"q": "u", "xmlns": "u"}, "xmlns"), ({1: "u"}, 1)):
                for listed in ((), None, ("p", "p")):
                    with self.assertRaises(BadSurrounding) as caught:
                        sealed(part, surrounding, listed)
                    self.assertEqual(caught.exception.prefix, wrong)
        for thing in ODD:
            if not isinstance(thing, dict):
                with self.assertRaises(BadSurrounding) as caught:
                    sealed(element(), thing)
                self.assertIsNone(caught.exception.prefix)

    def test_no_list(self):
        for asked in LISTED:
            for listed in NO_LISTS:
                with self.assertRaises(BadQuestion):
                    asked(element(), listed)
            for listed in LISTS:
                asked(element(), listed)

    def test_holes(self):
        part = element(children=(element(children=("so", hole("h"))),))
        for asked in LISTED:
            for listed in LISTS:
                with self.assertRaises(BadQuestion):
                    asked(part, listed)
        for asked in (safe_list, firm_list):
            with self.assertRaises(BadQuestion):
                asked(part)

    def test_always_refused(self):
        for part in ALWAYS_REFUSED:
            self.assertTrue(is_refused(part))
            for asked in LISTED[2:]:
                for listed in LISTS:
                    with self.assertRaises(BadQuestion):
                        asked(part, listed)
            for asked in (safe_list, firm_list):
                with self.assertRaises(BadQuestion):
                    asked(part)

    def test_arguments_are_not_changed_or_kept(self):
        part = quoting(("p", "c"), (("q", "u"),), (element(("q", "b")), "so"))
        surrounding = {"p": "u", "": "v"}
        before = copy.deepcopy((part, surrounding))
        form = sealed(part, surrounding)
        surrounding["q"] = "w"
        del surrounding["q"]
        self.assertEqual((part, surrounding), before)
        self.assertEqual(form, sealed(part, surrounding))
        for asked in (unsafe, unfirm):
            first = asked(part)
            for told in first:
                if isinstance(told, dict):
                    told["zz"] = "changed"
            self.assertNotIn("zz", asked(part)[0])
            self.assertEqual(asked(part), asked(part))


if __name__ == "__main__":
    unittest.main()
