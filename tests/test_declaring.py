import copy
import random
import unittest

from prefixgraft.declaring import fewest, how_few, keeping, needless, paper, shortest, shown, variant
from prefixgraft.errors import BadPart, BadQuestion
from prefixgraft.likeness import alike
from prefixgraft.parts import need_part, prefixes
from prefixgraft.skeletons import is_refused
from tests import oracles
from tests.samples import ODD, Hostile, Yes, chain_of, element, hole, row_of

LONG = "a" * 20
OF_ONE = (fewest, shortest, how_few, needless, paper, lambda part: shown(part, ()))
REFUSED = element(("p", "a"), (("p", ""),))


def signs(prefix, address):
    return (9 if prefix == "" else 10 + len(prefix)) + len(address)


def as_one(prefix, address):
    return 1


def weight(part, weigh):
    return sum(weigh(prefix, address) for _, prefix, address in oracles.declarations(part))


def declared(*some):
    """An ELEMENT with a NAME that asks for p alone, with these DECLARATIONS."""
    return element(("p", "a"), some)


def some_parts(seed, wanted, **how):
    """PARTs by chance, none ALWAYS REFUSED."""
    rng = random.Random(seed)
    found = []
    while len(found) < wanted:
        some = rng.choice([("", "u", "v"), ("u", "v", "w"), (LONG, "u", "v"), (LONG, "u", "")])
        chance = oracles.Chance(rng, rng.choice([("", "p"), ("p",), ("p", "q")]), some, ("a", "b", "c", "d"))
        part = chance.part(**how)
        if not is_refused(part):
            found.append(need_part(part))
    return found


class Variants(unittest.TestCase):
    def test_differing_in_declarations_alone(self):
        one = element(("p", "a"), (("p", "u"),), ((("", "b"), "x"),), ("so", element(("q", "b"), (("q", ""),)), hole("h")))
        self.assertIs(variant(one, one), True)
        for told in ({}, {(): [("p", "v")]}, {(1,): [("p", "u"), ("", "")]}):
            other = oracles.with_declarations(one, told)
            self.assertIs(variant(one, other), True)
            self.assertIs(variant(other, one), True)

    def test_differing_in_anything_else(self):
        one = element(("p", "a"), (("p", "u"),), ((("", "b"), "x"), (("", "c"), "x")), ("so", element(), hole("h")))
        for number, thing in (
            (1, ("q", "a")), (1, ("p", "b")), (3, one[3][::-1]), (3, one[3][:1]), (3, ((("", "b"), ("", "x")), one[3][1])),
            (4, one[4][:2]), (4, one[4][::-1]), (4, ("so", element(("p", "a")), hole("h"))),
            (4, ("so", element(), hole("g"))), (4, ("so ", element(), hole("h"))), (4, ()),
        ):
            other = one[:number] + (thing,) + one[number + 1:]
            self.assertIs(variant(one, other), False)
            self.assertIs(variant(other, one), False)
            self.assertIs(keeping(one, other), False)

    def test_of_parts_that_are_always_refused(self):
        self.assertIs(variant(REFUSED, element(("p", "a"))), True)
        self.assertIs(variant(element(("p", "a")), REFUSED), True)
        self.assertIs(keeping(REFUSED, element(("p", "a"))), False)
        self.assertIs(keeping(REFUSED, REFUSED), True)
        self.assertIs(keeping(element(("p", "a"), (("q", "u"), ("p", ""))), REFUSED), True)


class Keeping(unittest.TestCase):
    def check(self, part, keep, others):
        """Checks which DECLARATIONS KEEP a PART: of the ways to declare it that some, and others, tell."""
        for told in keep:
            self.assertIs(keeping(oracles.with_declarations(part, told), part), True)
            self.assertIs(keeping(part, oracles.with_declarations(part, told)), True)
        for told in others:
            self.assertIs(keeping(oracles.with_declarations(part, told), part), False)
            self.assertIs(keeping(part, oracles.with_declarations(part, told)), False)

    def test_the_name_of_an_element(self):
        p = ("p", "u")
        self.check(declared(p), [{(): [p]}, {(): [("q", "v"), p, ("", "")]}], [{}, {(): [("p", "v")]}, {(): [("p", "")]}])
        self.check(element(), [{}, {(): [p]}], [{(): [("", "u")]}, {(): [("", "")]}])
        self.check(element(("p", "a")), [{}, {(): [("", "u"), ("q", "v")]}], [{(): [p]}, {(): [("p", "")]}])

    def test_the_name_of_an_attribute(self):
        one = element(("q", "a"), (), ((("p", "b"), "x"), (("", "c"), "y")))
        self.check(one, [{}, {(): [("", "u")]}, {(): [("", "")]}, {(): [("r", "u")]}], [{(): [("p", "u")]}, {(): [("q", "u")]}])

    def test_a_quoted_name(self):
        one = element(("q", "a"), (), ((("", "b"), ("p", "x")), (("", "c"), "x")))
        self.check(one, [{}, {(): [("", "u")]}], [{(): [("p", "u")]}])
        one = element(("q", "a"), (), ((("", "b"), ("", "x")),))
        self.check(one, [{}, {(): [("p", "u")]}], [{(): [("", "u")]}, {(): [("", "")]}])

    def test_a_hole_asks_for_each_prefix(self):
        one = element(("p", "a"), (("q", "v"),), (), (element(("", "b"), children=(hole("h"),)),))
        q = ("q", "v")
        self.check(one, [{(): [q]}, {(0,): [q]}, {(): [q], (0,): [q]}, {(): [("q", "w")], (0,): [q]}], [
            {}, {(): [("r", "u"), q]}, {(): [q], (0,): [("r", "")]}, {(): [q], (0,): [("", "")]}, {(): [("q", "w")]},
            {(): [q, ("", "u")]},
        ])
        beside = element(("p", "a"), children=(element(("p", "b"), children=(hole("h"),)), element(("p", "c"))))
        self.check(beside, [{}, {(1,): [("q", "u")]}], [{(): [("q", "u")]}, {(0,): [("q", "u")]}])

    def test_what_is_asked_as_outside_is_so_around(self):
        one = element(("q", "a"), children=(element(("q", "b"), children=(element(("p", "c")),)), element(("q", "d"))))
        self.check(one, [{(1,): [("p", "u")]}], [{(): [("p", "u")]}, {(0,): [("p", "")]}, {(0, 0): [("p", "u")]}])
        one = element(("q", "a"), children=(element(("q", "b"), children=(element(("p", "c"), (("p", "u"),)),)),))
        self.check(one, [{(): [("p", "u")]}, {(0,): [("p", "u")]}, {(): [("p", "v")], (0, 0): [("p", "u")]}], [{}])

    def test_alike_without_keeping(self):
        rows = ((("p", "b"), "x"), (("q", "b"), "x"))
        one = element(("", "a"), (("p", "u"), ("q", "v")), rows)
        other = element(("", "a"), (("p", "v"), ("q", "u")), rows)
        self.assertIs(alike(one, other), True)
        self.assertIs(keeping(one, other), False)

    def test_declarations_in_another_order(self):
        one = declared(("q", "v"), ("p", "u"))
        self.assertIs(keeping(one, declared(("p", "u"), ("q", "v"))), True)

    def test_as_the_document_says(self):
        rng = random.Random(13)
        chance = oracles.Chance(rng, addresses=("", "u"))
        kept = 0
        for part in [chance.part(5, 4, declaring=0.3) for _ in range(150)]:
            ways = [part, oracles.bare(part), chance.part(5, 4)]
            for _ in range(8):
                told = {path: list(one[2]) for path, one in oracles.elements(part)}
                rows = told[rng.choice(sorted(told))]
                prefix = rng.choice(["", "p", "q", "r"])
                rows[:] = [one for one in rows if one[0] != prefix]
                if rng.random() < 0.6:
                    rows.append((prefix, rng.choice(["", "u"])))
                ways.append(oracles.with_declarations(part, told))
            for other in ways:
                wanted = oracles.keeps(other, part)
                kept += wanted
                self.assertIs(keeping(other, part), wanted)
                self.assertIs(keeping(part, other), wanted)
                if wanted:
                    self.assertIs(alike(part, other), True)
        self.assertGreater(kept, 300)


class Fewest(unittest.TestCase):
    def check(self, part, few, short=None):
        """Checks how many DECLARATIONS do, and with how many signs, where these are told."""
        for asked, weigh, wanted in ((fewest, as_one, few), (shortest, signs, short)):
            told = asked(part)
            self.assertIs(oracles.keeps(told, part), True)
            for _, one in oracles.elements(told):
                self.assertEqual(list(one[2]), sorted(one[2]))
            if wanted is not None:
                self.assertEqual(weight(told, weigh), wanted)
        self.assertEqual(how_few(part), few)

    def test_of_one_element(self):
        self.check(element(), 0, 0)
        self.check(element(("p", "a"), (("q", "u"), ("", "v"))), 0, 0)
        self.check(element(("p", "a"), (("p", "uv"), ("q", "u"))), 1, 13)
        self.check(element(("", "a"), (("", "uv"),)), 1, 11)
        self.check(element(("", "a"), (("", ""),)), 1, 9)
        self.check(element(("pq", "a"), (("r", "w"), ("q", ""), ("pq", "u"), ("", "v")), (), (hole("h"),)), 4)
        self.assertEqual(
            fewest(element(("p", "a"), (("r", "w"), ("q", ""), ("pq", "u"), ("", "v")), (), (hole("h"),)))[2],
            (("", "v"), ("pq", "u"), ("q", ""), ("r", "w")),
        )
        self.check(element(declarations=(("p", ""),), children=(hole("h"),)), 1, 11)

    def test_declared_farther_out(self):
        inner = declared(("p", "u"))
        part = element(children=(inner, "so", inner, element(children=(inner, inner))))
        self.check(part, 1, 12)
        self.assertEqual([path for path, _, _ in oracles.declarations(fewest(part))], [()])
        self.check(element(("p", "a"), children=(inner, inner)), 2, 24)
        self.check(element(("p", "a"), (("p", "v"),), (), (inner, inner)), 3, 36)
        self.check(element(("p", "a"), (("p", "v"),), (), (element(children=(inner, inner)),)), 2, 24)

    def test_what_is_needless_goes(self):
        inner = declared(("p", "u"), ("q", "v"))
        self.check(element(("p", "b"), (("p", "u"), ("r", "x")), (), (inner, inner)), 1, 12)

    def test_uses_as_outside_below_declared_ones(self):
        part = element(("q", "a"), (("q", "u"),), (), (
            element(("p", "c")), element(("q", "d"), (("p", "v"),), (), (element(("p", "e")), element(("p", "f")))),
        ))
        self.check(part, 2, 24)
        part = element(("q", "a"), (("q", "u"), ("", "v")), (), (
            element(("r", "b"), (("", ""),), (), (element(("", "c")), element(("p", "d")))),
        ))
        self.check(part, 2)

    def test_holes_ask_for_every_prefix(self):
        holding = element(("q", "a"), (("p", "u"), ("", "v"), ("r", "")), (), (hole("h"),))
        self.check(holding, 3)
        without = element(("q", "b"), (("p", "u"), ("", "v"), ("r", "")), (), ())
        self.check(without, 0, 0)
        self.check(element(("q", "c"), children=(holding, without)), 3)
        self.check(element(("q", "c"), (), (), (holding, hole("g"))), 3)
        self.check(element(("q", "c"), (), (), (holding, element(("q", "d"), (("p", "u"),), (), (hole("g"),)))), 3)
        self.check(element(("q", "c"), (), (), (holding, element(("q", "d"), (("p", "v"),), (), (hole("g"),)))), 4)
        self.check(element(("q", "c"), (), (), (holding, element(("q", "d"), (("", "v"),), (), (hole("g"),)))), 3)

    def test_a_shortest_one_with_more_declarations_than_the_fewest(self):
        far, near = declared(("p", LONG)), declared(("p", "v"))
        part = element(children=(far, far, near, near, near))
        self.check(part, 3, 31 + 3 * 12)
        self.assertEqual(len(oracles.declarations(shortest(part))), 4)
        self.assertGreater(weight(fewest(part), signs), 67)

    def test_how_many_signs_a_declaration_has(self):
        # To declare "first" around all takes six times "second" more, or the other way round four times "first":
        # that differs by three times "first" and five times "second", here by one sign more or less.
        own = {"": 9, "p": 11, "pq": 12, "abcdefgh": 18}
        for prefix, many in own.items():
            for wanted in (2 * many - 1, 2 * many + 1):
                first, second = next(
                    (one, other) for one in range(1, 21) for other in range(1, 21) if 3 * one - 5 * other == wanted
                )
                rows = [element((prefix, "a"), ((prefix, "u" * first),))] * 4
                rows += [element((prefix, "a"), ((prefix, "v" * second),))] * 6
                part = element(("q", "b"), children=tuple(rows))
                some = (many + first + 6 * (many + second), many + second + 4 * (many + first))
                self.assertEqual(abs(some[0] - some[1]), 1)
                self.check(part, 5, min(some))

    def test_a_prefix_that_is_taken_back(self):
        back = element(("", "a"), (("", ""),))
        self.check(element(("p", "a"), children=(back, element(("", "b"), (("", ""),)))), 1, 9)
        self.check(element(("", "a"), children=(back, back)), 2, 18)

    def test_by_trying(self):
        for part in some_parts(21, 250, many=5, levels=4, declaring=0.7, texts=0):
            self.check(part, oracles.least_weight(part, as_one), oracles.least_weight(part, signs))

    def test_great_parts(self):
        great = element()
        for number in range(6):
            great = element(("p", "a"), (("p", "u"), ("q", "v" * (number + 1))), ((("q", "b"), ("q", "x")),), (
                great, hole("abcdef"[number])
            ) + tuple(element(("q", "c"), (("q", letter), ("", "u"))) for letter in "abcabcab"))
        great = element(("", "d"), children=(great,) + (element(),) * 3)
        need_part(great)
        self.assertEqual(len(oracles.elements(great)), 59)
        self.check(great, shown(great, paper(great)))
        self.check(row_of(60), 0, 0)
        self.check(chain_of(8), 0, 0)
        for part in some_parts(22, 60, many=60, levels=8, declaring=0.7):
            self.check(part, oracles.shows(part, paper(part)))

    def test_many_prefixes_and_addresses(self):
        letters = "abcdefghijklmnopqrst"
        told = tuple((first + second, first) for first in letters for second in "abc")
        many = tuple(
            element(("p", "a"), tuple((prefix, f"{number}") for prefix, _ in told), (), (hole("h" + letter),))
            for number, letter in enumerate(letters)
        )
        part = element(("p", "b"), told, (), many + tuple(one[:4] + ((),) for one in many))
        self.check(part, 20 * 60)


class Needless(unittest.TestCase):
    def test_each_that_can_be_left_out_by_itself(self):
        inner = element(("p", "b"), (("q", "v"), ("p", "u")), ((("", "c"), ("q", "x")),))
        part = element(("p", "a"), (("r", "w"), ("p", "u"), ("q", "v"), ("", "u")), (), ("so", inner, inner))
        self.assertEqual(needless(part), [
            ((), ""), ((), "q"), ((), "r"), ((1,), "p"), ((1,), "q"), ((2,), "p"), ((2,), "q"),
        ])

    def test_none(self):
        self.assertEqual(needless(element()), [])
        self.assertEqual(needless(element(("p", "a"), (("p", "u"),))), [])
        self.assertEqual(needless(element(("", "a"), (("", ""),))), [])
        self.assertEqual(needless(element(("q", "a"), (("p", ""), ("", "u"), ("r", "v")), (), (hole("h"),))), [])

    def test_the_same_as_around_and_the_same_as_outside(self):
        part = element(("p", "a"), (("p", "u"),), (), (element(("p", "b"), (("p", "u"),)),))
        self.assertEqual(needless(part), [((0,), "p")])
        part = element(("q", "a"), (("p", "u"),), (), (element(("p", "b"), (("p", "u"),)),))
        self.assertEqual(needless(part), [((), "p"), ((0,), "p")])
        part = element(("q", "a"), (("p", ""),), (), (element(("q", "b"), (("p", ""),)),))
        self.assertEqual(needless(part), [((), "p"), ((0,), "p")])

    def test_at_holes(self):
        part = element(("q", "a"), (("p", "u"),), (), (element(("q", "b"), (("p", "u"),), (), (hole("h"),)), hole("g")))
        self.assertEqual(needless(part), [((0,), "p")])

    def test_the_order_of_elements(self):
        back = element(("q", "b"), (("r", "u"), ("", "v")))
        part = element(("q", "a"), (), (), (element(("q", "c"), children=("so", back)), back))
        self.assertEqual(needless(part), [((0, 1), ""), ((0, 1), "r"), ((1,), ""), ((1,), "r")])

    def test_by_trying(self):
        some = 0
        for part in some_parts(31, 120, many=5, levels=4, declaring=0.6):
            wanted = []
            for path, prefix, _ in oracles.declarations(part):
                told = {
                    at: [row for row in one[2] if (at, row[0]) != (path, prefix)] for at, one in oracles.elements(part)
                }
                if oracles.keeps(oracles.with_declarations(part, told), part):
                    wanted.append((path, prefix))
            order = [path for path, _ in oracles.elements(part)]
            wanted.sort(key=lambda row: (order.index(row[0]), row[1]))
            self.assertEqual(needless(part), wanted)
            some += len(wanted) > 1
            self.assertEqual(needless(fewest(part)), [])
        self.assertGreater(some, 25)

    def test_the_list_is_the_callers_own(self):
        part = declared(("q", "u"))
        needless(part).clear()
        self.assertEqual(needless(part), [((), "q")])


class Papers(unittest.TestCase):
    def check(self, part):
        told = paper(part)
        self.assertEqual([prefix for prefix, _ in told], sorted({prefix for prefix, _ in told}))
        self.assertIs(type(told), tuple)
        self.assertEqual(oracles.shows(part, told), how_few(part))
        self.assertEqual(shown(part, told), how_few(part))

    def test_papers_hold_and_show_how_few(self):
        self.check(element())
        self.assertEqual(shown(element(), ()), 0)
        one = element(("", "a"), (("", "u"), ("p", "v")), ((("p", "b"), ""),), (hole("h"),))
        self.assertEqual([row for row in paper(one) if row[1]], [("", ((-1, 0),)), ("p", ((-1, 0),))])
        u, v, w = declared(("p", "u")), declared(("p", "v")), declared(("p", "w"))
        for children in (
            (u, v), (u, v, w), (u, u, v, v), (u, u, v), (element(children=(u, v)), element(children=(u, w))),
            (element(children=(u, v)), element(children=(v, w)), element(children=(w, u))), (u, v, hole("h")),
            (element(children=(u, v)), element(children=(u, v, w)), element(children=(w, w)), u),
        ):
            self.check(element(children=children))
            self.check(element(("p", "a"), children=children))
            self.check(element(("p", "a"), (("p", "u"),), (), children))
            self.check(element(children=(element(children=children), element(("p", "a")))))

    def test_by_chance(self):
        for seed, many, levels in ((41, 6, 5), (42, 60, 8), (43, 60, 3), (44, 30, 2)):
            for part in some_parts(seed, 80, many=many, levels=levels, declaring=0.8):
                self.check(part)

    def test_many_addresses(self):
        chance = oracles.Chance(random.Random(45), ("p", ""), "a b c d e f g h i j".split(), "abcdefgh")
        for _ in range(60):
            part = chance.part(60, 8, holes=0.05, declaring=0.9, attributes=0.1)
            if not is_refused(part):
                self.check(part)


class Shown(unittest.TestCase):
    # 0 has the PREFIX p as OUTSIDE, or, as BOUND, at u; 1 has no use for it; 2 has it at u, 3 at v, 4 at u, 5 at w.
    U, V, W = (declared(("p", address)) for address in "uvw")
    OUT = element(("p", "a"), children=(element(("q", "b"), children=(U, V)), "so", U, W))
    BOUND = element(("p", "a"), (("p", "u"),))[:4] + (OUT[4],)

    def check(self, part, chains, wanted):
        told = (("p", tuple(chains)),)
        self.assertEqual(shown(part, told), wanted)
        self.assertEqual(oracles.shows(part, told), wanted)

    def test_papers_that_hold(self):
        self.assertEqual(shown(self.OUT, ()), 0)
        self.assertEqual(shown(self.OUT, (("", ()), ("p", ()), ("zzzzzzzz", ()))), 0)
        self.check(self.OUT, [(0, 2), (0, 3), (0, 4), (0, 5)], 4)
        self.check(self.OUT, [(-1, 4)], 1)
        self.check(self.OUT, [(4, -1)], 1)
        self.check(self.OUT, [(2, 3)], 1)
        self.check(self.OUT, [(3, 2)], 1)
        self.check(self.OUT, [(3, 0), (5, 4)], 2)
        self.check(self.BOUND, [(-1, 0), (0, 3), (4, 5)], 3)
        self.check(self.BOUND, [(-1, 2), (-1, 3), (-1, 5)], 3)

    def test_the_states_at_the_ends_are_unlike_or_no_edge_is_shared(self):
        self.check(self.OUT, [(-1, 2), (-1, 3)], 2)
        self.check(self.OUT, [(-1, 2), (-1, 4)], None)
        self.check(self.OUT, [(0, 2), (0, 4)], 2)
        self.check(self.OUT, [(2, 0), (2, 5)], 2)
        self.check(self.OUT, [(2, 0), (3, -1)], None)
        self.check(self.OUT, [(2, 3), (2, 3)], None)
        self.check(self.OUT, [(0, 5), (2, 5)], None)

    def test_the_same_direction(self):
        self.check(self.OUT, [(2, 0), (0, 3)], None)
        self.check(self.OUT, [(2, 3), (0, 2)], None)
        self.check(self.OUT, [(5, 0), (0, 5)], None)
        self.check(self.OUT, [(-1, 3), (4, -1)], None)
        self.check(self.OUT, [(2, 3), (0, 3)], None)

    def test_unlike_states(self):
        for chains in ([(2, 4)], [(0, 0)], [(-1, 0)], [(0, -1)], [(-1, -1)], [(2, 2)]):
            self.check(self.OUT, chains, None)
        self.check(self.BOUND, [(0, 2)], None)
        self.check(self.BOUND, [(-1, 0)], 1)
        self.check(self.BOUND, [(0, -1)], 1)

    def test_fixed_numbers_alone(self):
        for number in (1, 6, -2, 7, 10 ** 30, -10 ** 30):
            self.check(self.OUT, [(number, 5)], None)
            self.check(self.OUT, [(0, number)], None)

    def test_each_prefix_by_itself(self):
        part = element(("", "a"), (), (), (element(("p", "b"), (("p", "u"), ("", "v"))), element(("p", "c"), (("p", "w"),))))
        self.assertEqual(shown(part, (("", ()), ("p", ((1, 2),)))), 1)
        self.assertEqual(shown(part, (("", ((1, 2),)),)), None)
        holding = part[:4] + (part[4] + (hole("h"),),)
        self.assertEqual(shown(holding, (("", ()), ("p", ((0, 1), (0, 2))))), 2)
        self.assertEqual(shown(holding, (("q", ()), ("r", ()))), 0)
        self.assertEqual(shown(holding, (("q", ((-1, 0),)),)), None)
        one = element(("q", "a"), (("", "u"), ("p", "v")), (), (hole("h"),))
        self.assertEqual(shown(one, (("", ((-1, 0),)), ("p", ((-1, 0),)))), 2)
        self.assertEqual(shown(one, (("", ((-1, 0),)), ("p", ((0, -1),)), ("q", ()))), 2)

    def test_the_order_of_prefixes(self):
        for order, wanted in (
            (("", "p"), 0), (("p", ""), None), (("p", "p"), None), (("", ""), None), (("p", "pa", "q"), 0),
            (("p", "q", "pa"), None),
        ):
            self.assertEqual(shown(self.OUT, tuple((prefix, ()) for prefix in order)), wanted)

    def test_none_of_anything_else(self):
        fine = ("p", ((0, 2),))
        self.assertEqual(shown(self.OUT, (fine,)), 1)
        for thing in ODD + ("", "p", fine, [fine], (list(fine),), {"p": ()}, {}, ((),), (("p",),), (fine + ((),),)):
            self.assertIsNone(shown(self.OUT, thing))
        for thing in ODD + ("xmlns", "P", "abcdefghi", "p1", ("p",), 7):
            self.assertIsNone(shown(self.OUT, ((thing, ()),)))
            self.assertIsNone(shown(self.OUT, (("", ()), (thing, ()))))
            self.assertIsNone(shown(self.OUT, (thing,)))
            self.assertIsNone(shown(self.OUT, (("", ()), thing)))
        for thing in ODD + ("", "ab", [(0, 2)], {0: 2}, {(0, 2): 1}, 2, (0, 2)):
            self.assertIsNone(shown(self.OUT, (("p", thing),)))
        for thing in ODD + ([0, 2], (0, 2, 2), (0,), "02", ("0", "2"), (None, 2), (0, [2])):
            self.assertIsNone(shown(self.OUT, (("p", (thing,)),)))
            self.assertIsNone(shown(self.OUT, (("p", ((0, 2), thing)),)))
        for thing in ODD + ("0", (0,), b"0"):
            if isinstance(thing, bool) or not isinstance(thing, int):
                self.assertIsNone(shown(self.OUT, (("p", ((thing, 5),)),)))
                self.assertIsNone(shown(self.OUT, (("p", ((5, thing),)),)))

    def test_true_and_false_are_no_numbers(self):
        part = element(("p", "a"), children=(declared(("p", "u")),))
        self.assertEqual(shown(part, (("p", ((0, 1),)),)), 1)
        for chain in ((False, 1), (0, True), (False, True), (True, 0), (1, False)):
            self.assertIsNone(shown(part, (("p", (chain,)),)))

    def test_as_the_document_says(self):
        rng = random.Random(51)
        answers = []
        for part in some_parts(52, 250, many=6, levels=4, declaring=0.8):
            numbers = range(-2, len(oracles.elements(part)) + 1)
            for _ in range(12):
                told = tuple(
                    (prefix, tuple((rng.choice(numbers), rng.choice(numbers)) for _ in range(rng.randint(0, 3))))
                    for prefix in prefixes(part) if rng.random() < 0.5
                )
                answers.append(oracles.shows(part, told))
                self.assertEqual(shown(part, told), answers[-1])
            full = paper(part)
            for _ in range(6):
                told = tuple(
                    (prefix, tuple(
                        chain if rng.random() < 0.7 else rng.choice([chain[::-1], (chain[0], rng.choice(numbers))])
                        for chain in chains
                    )) for prefix, chains in full
                )
                answers.append(oracles.shows(part, told))
                self.assertEqual(shown(part, told), answers[-1])
        self.assertGreater(len([one for one in answers if one is None]), 500)
        self.assertGreater(len([one for one in answers if one is not None and one > 1]), 200)

    def test_no_paper_shows_more_than_how_few(self):
        rng = random.Random(53)
        for part in some_parts(54, 40, many=5, levels=4, declaring=0.8):
            numbers = range(-1, len(oracles.elements(part)))
            for _ in range(20):
                told = []
                for prefix in prefixes(part):
                    chains = ()
                    for _ in range(10):
                        more = chains + ((rng.choice(numbers), rng.choice(numbers)),)
                        if shown(part, ((prefix, more),)) is not None:
                            chains = more
                    told.append((prefix, chains))
                self.assertLessEqual(shown(part, tuple(told)), how_few(part))


class Refusing(unittest.TestCase):
    def test_bad_part_of_anything(self):
        for thing in ODD + (Hostile(), Yes(), row_of(61), chain_of(9)):
            for asked in OF_ONE + (lambda part: shown(part, None), lambda part: shown(part, part)):
                with self.assertRaises(BadPart):
                    asked(thing)
            for asked in (variant, keeping):
                with self.assertRaises(BadPart):
                    asked(thing, element())
                with self.assertRaises(BadPart):
                    asked(element(), thing)
        wrong = element(children=(element(("", "A")),))
        for asked in (variant, keeping):
            for one, other, path in ((wrong, None, (0,)), (None, wrong, ()), (element(), wrong, (0,))):
                with self.assertRaises(BadPart) as caught:
                    asked(one, other)
                self.assertEqual(caught.exception.path, path)

    def test_bad_question_of_what_is_always_refused(self):
        twice = ((("p", "b"), "x"), (("q", "b"), "y"))
        for part in (
            REFUSED, element(children=(hole("h"), REFUSED)), element(("", "a"), (("p", "u"), ("q", "u")), twice),
            element(declarations=(("p", ""),), attributes=((("", "b"), ("p", "c")),)),
        ):
            for asked in OF_ONE + (lambda one: shown(one, None), lambda one: shown(one, 7)):
                with self.assertRaises(BadQuestion):
                    asked(part)

    def test_no_argument_is_changed_and_equal_calls_are_equal(self):
        for part in some_parts(61, 40, many=8, levels=5):
            before = copy.deepcopy(part)
            for asked in OF_ONE + (lambda one: variant(one, one), lambda one: keeping(one, one)):
                self.assertEqual(asked(part), asked(before))
            self.assertEqual(part, before)


if __name__ == "__main__":
    unittest.main()
