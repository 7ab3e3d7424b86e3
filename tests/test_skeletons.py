import copy
import itertools
import random
import unittest

from prefixgraft.errors import BadPart, BadPath, BadQuestion
from prefixgraft.parts import need_part, paths
from prefixgraft.reading import meaning
from prefixgraft.skeletons import clashes, hangs_on, is_refused, needs, skeleton, state_at
from tests import oracles
from tests.samples import ODD, Hostile, Yes, chain_of, element, hole, row_of

EXAMPLE = ("element", ("", "a"), (("", "u"), ("p", "v")), ((("", "b"), "x"), (("p", "b"), ("", "c"))), ())
ALL = (skeleton, is_refused, needs, hangs_on, clashes)


def out(prefix):
    return ("out", prefix)


def bound_to(address):
    return ("at", address)


BACK = bound_to("")


def told(full_name, attributes=(), children=()):
    """A SKELETON."""
    return ("element", full_name, attributes, children)


def read_skeleton(thing, surrounding):
    """The MEANING that comes of a SKELETON."""
    def address(state):
        return state[1] if state[0] == "at" else surrounding.get(state[1], "")

    _, (state, local), attributes, children = thing
    rows = [
        ((address(name[0]), name[1]), worth if isinstance(worth, str) else (address(worth[0]), worth[1]))
        for name, worth in attributes
    ]
    inner = [one if isinstance(one, str) else read_skeleton(one, surrounding) for one in children]
    return ("element", (address(state), local), tuple(sorted(rows, key=lambda row: row[0])), tuple(inner))


def surroundings(prefixes, addresses):
    """All SURROUNDINGs that bind some of these PREFIXes to some of these ADDRESSes."""
    for row in itertools.product((None,) + tuple(addresses), repeat=len(prefixes)):
        yield {prefix: address for prefix, address in zip(prefixes, row) if address is not None}


class Skeletons(unittest.TestCase):
    def test_the_example(self):
        self.assertEqual(skeleton(EXAMPLE), told(
            (bound_to("u"), "a"), (((BACK, "b"), "x"), ((bound_to("v"), "b"), (bound_to("u"), "c")))
        ))

    def test_names_of_elements_with_and_without_the_default(self):
        self.assertEqual(skeleton(element()), told((out(""), "a")))
        self.assertEqual(skeleton(element(declarations=(("", "u"),))), told((bound_to("u"), "a")))
        self.assertEqual(skeleton(element(declarations=(("", ""),))), told((BACK, "a")))
        self.assertEqual(skeleton(element(("p", "a"))), told((out("p"), "a")))
        self.assertEqual(skeleton(element(("p", "a"), (("p", "u"),))), told((bound_to("u"), "a")))
        self.assertEqual(skeleton(element(("p", "a"), (("p", ""),))), told((BACK, "a")))
        self.assertEqual(skeleton(element(("p", "a"), (("", "u"), ("q", "u")))), told((out("p"), "a")))

    def test_the_default_at_attributes_and_at_quoted_names(self):
        one = element(("p", "a"), (("", "u"),), ((("", "b"), ("", "c")),))
        self.assertEqual(skeleton(one), told((out("p"), "a"), (((BACK, "b"), (bound_to("u"), "c")),)))
        one = element(("p", "a"), (), ((("", "b"), ("", "c")), (("q", "b"), ("q", "c"))))
        self.assertEqual(skeleton(one), told(
            (out("p"), "a"), (((BACK, "b"), (out(""), "c")), ((out("q"), "b"), (out("q"), "c")))
        ))

    def test_states_come_from_the_nearest_declaration_around(self):
        inner = element(("p", "c"), (("p", "w"),), (), (element(("p", "d")), element(("q", "d"), (("q", ""),))))
        one = element(("p", "a"), (("p", "u"), ("q", "v")), (), (element(("p", "b")), "so", inner, element(("p", "e"))))
        self.assertEqual(skeleton(one), told((bound_to("u"), "a"), (), (
            told((bound_to("u"), "b")), "so",
            told((bound_to("w"), "c"), (), (told((bound_to("w"), "d")), told((BACK, "d")))),
            told((bound_to("u"), "e")),
        )))

    def test_a_declaration_does_not_reach_beside_or_above(self):
        one = element(("p", "a"), (), (), (element(("p", "b"), (("p", "u"),)), element(("p", "c"))))
        self.assertEqual(
            skeleton(one), told((out("p"), "a"), (), (told((bound_to("u"), "b")), told((out("p"), "c"))))
        )

    def test_the_order_of_attributes(self):
        attributes = ((("q", "a"), "1"), (("p", "b"), "2"), (("", "c"), "3"), (("p", "a"), "4"), (("r", "a"), "5"))
        one = element(declarations=(("p", "z"), ("q", "y")), attributes=attributes)
        self.assertEqual(skeleton(one), told((out(""), "a"), (
            ((BACK, "c"), "3"), ((bound_to("y"), "a"), "1"), ((bound_to("z"), "a"), "4"), ((bound_to("z"), "b"), "2"),
            ((out("r"), "a"), "5"),
        )))

    def test_attributes_with_equal_first_ones_as_they_stand(self):
        declared = (("p", "u"), ("q", "u"))
        for values in (("x", "a"), ("a", "x"), (("", "c"), "a"), ("a", ("", "c")), ("", "")):
            attributes = ((("q", "b"), values[0]), (("p", "b"), values[1]), (("p", "a"), "0"))
            worths = [one if isinstance(one, str) else (out(""), "c") for one in values]
            self.assertEqual(skeleton(element(declarations=declared, attributes=attributes)), told((out(""), "a"), (
                ((bound_to("u"), "a"), "0"), ((bound_to("u"), "b"), worths[0]), ((bound_to("u"), "b"), worths[1]),
            )))

    def test_holes_with_what_is_bound_at_them(self):
        self.assertEqual(skeleton(element(children=(hole("h"),))), told((out(""), "a"), (), (("hole", "h", ()),)))
        one = element(declarations=(("q", "v"), ("p", ""), ("", "u")), children=(
            hole("h"), element(declarations=(("q", "w"),), children=("so", hole("g"))), hole("xmlns"),
        ))
        around = (("", bound_to("u")), ("p", BACK), ("q", bound_to("v")))
        inner = (("", bound_to("u")), ("p", BACK), ("q", bound_to("w")))
        self.assertEqual(skeleton(one), told((bound_to("u"), "a"), (), (
            ("hole", "h", around), told((bound_to("u"), "a"), (), ("so", ("hole", "g", inner))),
            ("hole", "xmlns", around),
        )))

    def test_of_a_part_that_is_always_refused(self):
        self.assertEqual(skeleton(element(("p", "a"), (("p", ""),))), told((BACK, "a")))

    def test_great_parts(self):
        many = skeleton(row_of(60))
        self.assertEqual(many, told((out(""), "a"), (), (told((out(""), "a")),) * 59))
        deep = skeleton(chain_of(8))
        for _ in range(7):
            self.assertEqual(deep[:3], ("element", (out(""), "a"), ()))
            deep, = deep[3]
        self.assertEqual(deep, told((out(""), "a")))


class AlwaysRefused(unittest.TestCase):
    def test_a_name_whose_prefix_is_taken_back(self):
        taken = (("p", ""),)
        for one in (
            element(("p", "a"), taken), element(attributes=((("p", "b"), "x"),), declarations=taken),
            element(attributes=((("", "b"), ("p", "x")),), declarations=taken),
        ):
            self.assertIs(is_refused(one), True)
            self.assertIs(is_refused(element(children=("so", element(children=(one,))))), True)
            inner = one[:2] + ((),) + one[3:]
            self.assertIs(is_refused(inner), False)
            self.assertIs(is_refused(element(declarations=taken, children=(inner,))), True)
            around = element(declarations=(("p", "u"),), children=(inner,))
            self.assertIs(is_refused(element(declarations=taken, children=(around,))), False)

    def test_the_default_can_be_taken_back(self):
        self.assertIs(is_refused(element(("", "a"), (("", ""),), ((("", "b"), ("", "c")),))), False)

    def test_what_is_taken_back_and_not_used(self):
        self.assertIs(is_refused(element(declarations=(("p", ""), ("q", "")), children=(hole("h"),))), False)

    def test_two_attributes_with_the_same_state_and_local(self):
        both = ((("p", "b"), "x"), (("q", "b"), "y"))
        self.assertIs(is_refused(element(declarations=(("p", "u"), ("q", "u")), attributes=both)), True)
        self.assertIs(is_refused(element(declarations=(("p", "u"), ("q", "v")), attributes=both)), False)
        self.assertIs(is_refused(element(declarations=(("p", "u"),), attributes=both)), False)
        self.assertIs(is_refused(element(attributes=both)), False)
        other = ((("p", "b"), "x"), (("q", "c"), "x"))
        self.assertIs(is_refused(element(declarations=(("p", "u"), ("q", "u")), attributes=other)), False)

    def test_the_default_is_not_for_attributes(self):
        one = element(declarations=(("", "u"), ("p", "u")), attributes=((("", "b"), "x"), (("p", "b"), "x")))
        self.assertIs(is_refused(one), False)
        self.assertIsNotNone(meaning(one, {}))


class Needs(unittest.TestCase):
    def test_each_kind_of_name(self):
        for one in (
            element(("p", "a"), (("", "u"),)), element(declarations=(("", "u"),), attributes=((("p", "b"), "x"),)),
            element(declarations=(("", "u"),), attributes=((("", "b"), ("p", "x")),)),
        ):
            self.assertEqual(needs(one), ("p",))
            self.assertEqual(hangs_on(one), ("p",))
            for declared in ((("p", "u"),), (("p", ""),)):
                around = element(declarations=declared + (("", "u"),), children=(one,))
                self.assertEqual(needs(around), ())
                self.assertEqual(hangs_on(around), ())

    def test_the_default(self):
        self.assertEqual((needs(element()), hangs_on(element())), ((), ("",)))
        for quoted, wanted in ((("", "c"), ("", "p")), ("x", ("p",)), (("q", "c"), ("p", "q"))):
            one = element(("p", "a"), attributes=((("", "b"), quoted),))
            self.assertEqual(hangs_on(one), wanted)
            self.assertEqual(needs(one), tuple(prefix for prefix in wanted if prefix))
        self.assertEqual(hangs_on(element(declarations=(("", ""),))), ())

    def test_ascending_each_once(self):
        one = element(("r", "a"), (), ((("q", "b"), ("", "b")), (("r", "c"), "x")), (element(("p", "a")), element()))
        self.assertEqual(needs(one), ("p", "q", "r"))
        self.assertEqual(hangs_on(one), ("", "p", "q", "r"))

    def test_as_outside_at_one_name_alone(self):
        one = element(("p", "a"), children=(element(("p", "b"), (("p", "u"),)),))
        self.assertEqual(needs(one), ("p",))
        one = element(declarations=(("", "u"),), children=(element(("p", "b"), (("p", "u"),)), element(("p", "b"))))
        self.assertEqual(needs(one), ("p",))

    def test_holes_and_declarations_need_nothing(self):
        one = element(declarations=(("", "u"), ("p", "v")), children=(hole("h"), element(declarations=(("q", ""),))))
        self.assertEqual((needs(one), hangs_on(one)), ((), ()))


class Clashes(unittest.TestCase):
    def one(self, *names, declared=()):
        return element(declarations=declared, attributes=tuple((name, "x") for name in names))

    def test_with_one_and_with_two_as_outside(self):
        self.assertEqual(clashes(self.one(("q", "b"), ("p", "b"))), ((out("p"), out("q")),))
        for declared in ((("p", "u"),), (("p", "u"), ("", "v"))):
            self.assertEqual(
                clashes(self.one(("q", "b"), ("p", "b"), declared=declared)), ((bound_to("u"), out("q")),)
            )

    def test_without_any(self):
        for one in (
            self.one(("p", "b"), ("q", "b"), declared=(("p", "u"), ("q", "v"))),
            self.one(("p", "b"), ("q", "b"), declared=(("p", "u"), ("q", "u"))),
            self.one(("p", "b"), ("q", "c")), self.one(("p", "b"), ("", "b")),
            self.one(("p", "b"), ("q", "b"), declared=(("p", ""),)), self.one(),
            element(attributes=((("p", "a"), ("r", "b")), (("", "c"), ("q", "b")))),
        ):
            self.assertEqual(clashes(one), ())

    def test_the_default_does_not_clash(self):
        self.assertEqual(clashes(self.one(("p", "b"), ("", "b"), declared=(("", "u"),))), ())

    def test_not_of_two_elements(self):
        self.assertEqual(clashes(element(children=(self.one(("p", "b")), self.one(("q", "b"))))), ())

    def test_ascending_each_once(self):
        inner = self.one(("r", "c"), ("q", "c"), ("p", "c"), declared=(("r", "u"),))
        one = self.one(("q", "b"), ("r", "b"), ("p", "b"), ("q", "c"), ("r", "c"))
        one = one[:4] + ((inner, inner, element(children=(inner,))),)
        self.assertEqual(clashes(one), (
            (bound_to("u"), out("p")), (bound_to("u"), out("q")),
            (out("p"), out("q")), (out("p"), out("r")), (out("q"), out("r")),
        ))

    def test_of_a_part_that_is_always_refused(self):
        one = self.one(("p", "b"), ("q", "b"), ("r", "b"), declared=(("p", "u"), ("q", "u")))
        self.assertEqual(clashes(one), ((bound_to("u"), out("r")),))


class States(unittest.TestCase):
    ONE = element(("p", "a"), (("p", "u"),), (), ("so", element(("p", "b"), (("p", ""), ("", "v"))), hole("h")))

    def test_states(self):
        for path, prefix, wanted in (
            ((), "p", bound_to("u")), ((), "", out("")), ((), "q", out("q")), ((1,), "p", BACK),
            ((1,), "", bound_to("v")), ((1,), "abcdefgh", out("abcdefgh")),
        ):
            self.assertEqual(state_at(self.ONE, path, prefix), wanted)

    def test_bad_paths_of_anything(self):
        for path in ODD + ((0,), (2,), (3,), (-1,), (1, 0), [1], "", (True,)):
            for prefix in ("p", None):
                with self.assertRaises(BadPath) as caught:
                    state_at(self.ONE, path, prefix)
                self.assertIs(caught.exception.path, path)

    def test_bad_prefixes_of_anything(self):
        for prefix in ODD + ("xmlns", "P", "p1", "abcdefghi", " ", ("p",), ["p"]):
            with self.assertRaises(BadQuestion):
                state_at(self.ONE, (1,), prefix)

    def test_bad_part_first(self):
        for part in ODD:
            with self.assertRaises(BadPart):
                state_at(part, None, None)

    def test_as_the_declarations_around_say(self):
        chance = oracles.Chance(random.Random(7))
        for _ in range(150):
            one = chance.part(8, 5)
            for path in paths(one):
                for prefix in ("", "p", "q", "r"):
                    self.assertEqual(state_at(one, path, prefix), oracles.state(one, path, prefix))


class Facts(unittest.TestCase):
    def test_what_a_part_means_comes_of_its_skeleton(self):
        chance = oracles.Chance(random.Random(8), addresses=("", "u", "v"))
        refused = clashing = 0
        for _ in range(400):
            one = need_part(chance.part(5, 3, holes=0, declaring=0.3, attributes=0.7))
            states = clashes(one)
            clashing += len(states) > 0
            meanings = []
            for surrounding in surroundings(("", "p", "q"), ("u", "w", "z")):
                read = [[s[1] if s[0] == "at" else surrounding.get(s[1], "") for s in pair] for pair in states]
                wanted = None
                if not (
                    is_refused(one) or any(prefix not in surrounding for prefix in needs(one))
                    or any(first == second for first, second in read)
                ):
                    wanted = read_skeleton(skeleton(one), surrounding)
                meanings.append(meaning(one, surrounding))
                self.assertEqual(meanings[-1], wanted)
            refused += is_refused(one)
            self.assertIs(all(one == meanings[0] for one in meanings), is_refused(one) or hangs_on(one) == ())
        self.assertGreater(min(refused, 400 - refused, clashing), 30)

    def test_no_argument_is_changed_and_equal_calls_are_equal(self):
        chance = oracles.Chance(random.Random(9))
        for _ in range(60):
            one = chance.part(8, 5)
            before = copy.deepcopy(one)
            for asked in ALL:
                self.assertEqual(asked(one), asked(before))
            self.assertEqual(one, before)
            for asked in (needs, hangs_on, clashes):
                self.assertIs(type(asked(one)), tuple)


class BadParts(unittest.TestCase):
    def test_bad_part_of_anything(self):
        for thing in ODD + (Hostile(), Yes(), element(("P", "a")), row_of(61), chain_of(9)):
            for asked in ALL:
                with self.assertRaises(BadPart):
                    asked(thing)

    def test_what_bad_part_tells(self):
        twice = element(children=(hole("h"), element(children=(hole("h"),))))
        wrong = element(children=(element(), element(attributes=((("p", "a"), 1),))))
        for asked in ALL:
            for thing, path, item in ((twice, (1,), "hole"), (wrong, (1,), "attributes"), (chain_of(9), (0,) * 8, "form")):
                with self.assertRaises(BadPart) as caught:
                    asked(thing)
                self.assertEqual((caught.exception.path, caught.exception.item), (path, item))


if __name__ == "__main__":
    unittest.main()
