import copy
import random
import unittest

from prefixgraft.declaring import keeping
from prefixgraft.errors import BadPart, BadPath, BadQuestion, Stuck
from prefixgraft.grafting import moved, stuck_by
from prefixgraft.likeness import alike
from prefixgraft.parts import need_part, paths
from prefixgraft.skeletons import is_refused
from tests import oracles
from tests.samples import ODD, Hostile, Yes, chain_of, element, hole, row_of

REFUSED = element(children=(element(("p", "a"), (("p", ""),)), element()))


def leaf(local, *declared):
    return element(("", local), declared)


def plainly_moved(part, path, to, at):
    """The PART with an ELEMENT at another place, DECLARATIONS as they stand; and the PATH at which it is then."""
    marked = ("element", "here")

    def changed(one, here):
        children = []
        for number, child in enumerate(one[4]):
            if here + (number,) != path:
                children.append(changed(child, here + (number,)) if child[0] == "element" else child)
        if here == to:
            children.insert(at, marked)
        return one[:4] + (tuple(children),)

    def found(one, here):
        for number, child in enumerate(one[4]):
            if child is marked:
                return here + (number,)
            told = found(child, here + (number,)) if child[0] == "element" else None
            if told is not None:
                return told
        return None

    result = changed(part, ())
    place = found(result, ())

    def filled(one):
        return one[:4] + (tuple(
            oracles.at(part, path) if child is marked else filled(child) if child[0] == "element" else child
            for child in one[4]
        ),)

    return filled(result), place


def sticking(part, path, to):
    """The PREFIXes by which an ELEMENT is STUCK, as the document says."""
    inner = [one for one, _ in oracles.elements(part) if one[:len(path)] == path]
    return tuple(
        prefix for prefix in oracles.every_prefix(part)
        if oracles.state(part, to, prefix) != ("out", prefix) and any(
            oracles.asked(part, one, prefix) and oracles.state(part, one, prefix) == ("out", prefix) for one in inner
        )
    )


def fewest_in(part, path, to):
    """How few DECLARATIONS do in an ELEMENT that is MOVED, by trying all."""
    one = oracles.at(part, path)
    total = 0
    for prefix in oracles.every_prefix(part):
        around = oracles.state(part, to, prefix)
        # As in a PART around it with the STATE that the PREFIX has where it comes to.
        counts = []
        addresses = {address for _, told, address in oracles.declarations(part) if told == prefix}
        trial = oracles.with_declarations(one, {(): [(prefix, address) for address in addresses]})
        for told in oracles.one_prefix_declared(trial, prefix):
            rows = {inner: [(prefix, address)] for inner, address in told}
            tried = oracles.with_declarations(one, rows)
            if all(
                not oracles.asked(part, path + inner, prefix) or oracles.state(part, path + inner, prefix) == (
                    around if oracles.state(tried, inner, prefix)[0] == "out" else oracles.state(tried, inner, prefix)
                ) for inner, _ in oracles.elements(one)
            ):
                counts.append(len(told))
        total += min(counts)
    return total


class Moved(unittest.TestCase):
    def test_ahead_of_the_child_with_a_number(self):
        part = element(children=(leaf("b"), "so", leaf("c"), leaf("d")))
        for at, wanted in (
            (0, ("d", "b", "so", "c")), (1, ("b", "d", "so", "c")), (2, ("b", "so", "d", "c")), (3, ("b", "so", "c", "d")),
        ):
            told = moved(part, (3,), (), at)
            self.assertEqual(tuple(one if isinstance(one, str) else one[1][1] for one in told[4]), wanted)

    def test_the_place_is_counted_when_the_element_has_left(self):
        part = element(children=(leaf("b"), leaf("c"), leaf("d")))
        for at, wanted in ((0, "bcd"), (1, "cbd"), (2, "cdb")):
            self.assertEqual("".join(one[1][1] for one in moved(part, (0,), (), at)[4]), wanted)
        with self.assertRaises(BadPath) as caught:
            moved(part, (0,), (), 3)
        self.assertEqual(caught.exception.path, 3)

    def test_into_another_one_whose_path_is_told_in_the_part_as_it_is(self):
        part = element(children=(leaf("b"), element(("", "c"), children=("x", leaf("d"))), leaf("e")))
        self.assertEqual(moved(part, (0,), (1,), 1), element(children=(
            element(("", "c"), children=("x", leaf("b"), leaf("d"))), leaf("e"),
        )))
        self.assertEqual(moved(part, (0,), (1, 1), 0), element(children=(
            element(("", "c"), children=("x", element(("", "d"), children=(leaf("b"),)))), leaf("e"),
        )))
        self.assertEqual(moved(part, (2,), (1,), 2), element(children=(
            leaf("b"), element(("", "c"), children=("x", leaf("d"), leaf("e"))),
        )))
        self.assertEqual(moved(part, (1, 1), (), 0), element(children=(
            leaf("d"), leaf("b"), element(("", "c"), children=("x",)), leaf("e"),
        )))
        self.assertEqual(moved(part, (1,), (0,), 0), element(children=(
            element(("", "b"), children=(element(("", "c"), children=("x", leaf("d"))),)), leaf("e"),
        )))

    def test_states_that_are_lost_are_declared(self):
        inner = element(("p", "b"), (), ((("", "c"), ("", "d")), (("q", "c"), "x")))
        part = element(("", "a"), (), (), (element(("p", "e"), (("q", "v"), ("p", "u"), ("", "w")), (), (inner,)), leaf("f")))
        told = moved(part, (0, 0), (1,), 0)
        self.assertEqual(told[4][1][4], (inner[:2] + ((("", "w"), ("p", "u"), ("q", "v")),) + inner[3:],))
        self.assertEqual(told[4][0], part[4][0][:4] + ((),))

    def test_states_that_are_found_are_not_declared(self):
        inner = element(("p", "b"), (("p", "u"), ("q", "v"), ("", "")), (), (element(("", "c"), (("r", "x"),)),))
        part = element(("p", "a"), (("p", "u"),), (), (inner, element(("p", "d"), (("", "y"), ("r", "x")))))
        told = moved(part, (0,), (1,), 0)
        self.assertEqual(told, part[:4] + ((part[4][1][:4] + ((
            told[4][0][4][0],
        ),),),))
        self.assertEqual([row[1:] for row in oracles.declarations(told[4][0][4][0])], [("", "")])
        part = element(("p", "a"), (("p", "u"),), (), (inner, element(("p", "d"), (("", ""), ("p", "v")))))
        self.assertEqual([row[1:] for row in oracles.declarations(moved(part, (0,), (1,), 0)[4][0][4][0])], [("p", "u")])

    def test_all_declarations_in_it_are_set_anew_also_in_its_own_place(self):
        inner = element(("q", "b"), (("s", "x"), ("r", "x")), (), (
            element(("q", "c"), (("p", "u"),)), element(("p", "c"), (("p", "u"),)), element(("p", "c"), (("p", "u"),)),
        ))
        part = element(("", "a"), (("t", "y"),), (), (inner,))
        told = moved(part, (0,), (), 0)
        self.assertEqual(told[:4], part[:4])
        self.assertEqual(oracles.declarations(told[4][0]), [((), "p", "u")])

    def test_all_others_stay(self):
        rows = (("t", "y"), ("p", "z"), ("", ""))
        part = element(("q", "a"), rows, (), (element(("", "b"), rows), element(("q", "c"), (("q", ""),), (), (leaf("d", *rows),))))
        part = part[:4] + (part[4][:1] + (leaf("e", *rows),),)
        told = moved(part, (1,), (0,), 0)
        self.assertEqual(told, part[:4] + ((part[4][0][:4] + ((leaf("e"),),),),))

    def test_ascending_declarations(self):
        inner = element(("r", "b"), (), ((("q", "c"), ("", "x")),), (hole("h"),))
        part = element(("", "a"), (), (), (element(("", "e"), (("r", "u"), ("", "v"), ("q", "w"), ("p", "")), (), (inner,)), leaf("f")))
        told = moved(part, (0, 0), (1,), 0)
        self.assertEqual(told[4][1][4][0][2], (("", "v"), ("p", ""), ("q", "w"), ("r", "u")))

    def test_an_element_with_holes(self):
        inner = element(("p", "b"), children=(hole("h"),))
        part = element(("p", "a"), children=(
            inner, element(("p", "c"), (("q", "u"),)), element(("p", "d"), children=(inner[:4] + ((hole("g"),),),)),
        ))
        self.assertEqual(stuck_by(part, (0,), (1,)), ("q",))
        with self.assertRaises(Stuck) as caught:
            moved(part, (0,), (1,), 0)
        self.assertEqual(caught.exception.prefix, "q")
        self.assertEqual(moved(part, (0,), (2,), 0)[4][1][4][0], inner)
        self.assertEqual(stuck_by(part, (2, 0), ()), ())
        part = element(("p", "a"), children=(
            element(("p", "c"), (("q", "u"),), (), (inner,)), element(("p", "d"), (("q", ""),)), leaf("e"),
        ))
        self.assertEqual(moved(part, (0, 0), (1,), 0)[4][1][4][0][2], (("q", "u"),))
        self.assertEqual(moved(part, (0, 0), (2,), 0)[4][2][4][0][2], (("q", "u"),))

    def test_by_trying(self):
        rng = random.Random(71)
        counts = {"moved": 0, "stuck": 0, "texts": 0}
        for _ in range(2500):
            chance = oracles.Chance(rng, rng.choice([("", "p"), ("p", "q")]), rng.choice([("u", "v"), ("", "u")]), "abcd")
            part = chance.part(6, 4, declaring=rng.choice([0.2, 0.5]), texts=0.4, holes=rng.choice([0, 0.4]))
            every = paths(part)
            path, to = rng.choice(every), rng.choice(every)
            if is_refused(part) or path == () or to[:len(path)] == path or len(oracles.elements(oracles.at(part, path))) > 4:
                continue
            at = rng.randint(0, len(oracles.at(part, to)[4]) - (to == path[:-1]))
            plain, place = plainly_moved(part, path, to, at)
            wanted = sticking(part, path, to)
            self.assertEqual(stuck_by(part, path, to), wanted)
            if any(
                isinstance(first, str) and isinstance(second, str)
                for _, one in oracles.elements(plain) for first, second in zip(one[4], one[4][1:])
            ):
                counts["texts"] += 1
                with self.assertRaises(BadPath) as caught:
                    moved(part, path, to, at)
                self.assertIs(caught.exception.path, path)
            elif wanted:
                counts["stuck"] += 1
                with self.assertRaises(Stuck) as caught:
                    moved(part, path, to, at)
                self.assertEqual(caught.exception.prefix, wanted[0])
            else:
                counts["moved"] += 1
                self.check(part, path, to, at, plain, place)
        self.assertGreater(min(counts.values()), 40)

    def check(self, part, path, to, at, plain, place):
        """Checks what is told of an ELEMENT that can be MOVED."""
        told = need_part(moved(part, path, to, at))
        inside = [one for one, _ in oracles.elements(told) if one[:len(place)] == place]
        kept = {one: inner[2] for one, inner in oracles.elements(plain) if one not in inside}
        for one in inside:
            kept[one] = oracles.at(told, one)[2]
            self.assertEqual(list(kept[one]), sorted(kept[one]))
        self.assertEqual(told, oracles.with_declarations(plain, kept))
        for one in inside:
            old = path + one[len(place):]
            for prefix in oracles.every_prefix(part):
                if oracles.asked(part, old, prefix):
                    self.assertEqual(oracles.state(told, one, prefix), oracles.state(part, old, prefix))
        self.assertEqual(len(oracles.declarations(oracles.at(told, place))), fewest_in(part, path, to))

    def test_great_parts(self):
        deep = chain_of(7)
        part = element(("p", "a"), (("p", "u"), ("q", "v")), (), (deep, element(("q", "b"), (("", "w"),))) + (element(),) * 51)
        need_part(part)
        self.assertEqual(stuck_by(part, (0,), (1,)), ("",))
        self.assertEqual(moved(part, (0,), (), 52)[4][52], deep)
        self.assertIs(alike(moved(part, (0,), (), 0), part), True)
        many = element(("p", "a"), (("p", "u"),), (), tuple(element(("p", "b"), (("p", "uv"[number & 1]),)) for number in range(57)))
        part = element(("q", "a"), (), (), (element(("q", "b"), (("q", "v"),)), many))
        told = moved(part, (1,), (), 0)
        self.assertEqual(len(oracles.declarations(told)), 1 + 1 + 28)
        self.assertIs(keeping(told[4][0], many), True)


class Errors(unittest.TestCase):
    # (0, 1) has two TEXTs beside it; (1,) has the DEFAULT declared.
    PART = element(("p", "a"), children=(
        element(("p", "b"), children=("x", element(("p", "c"), children=(leaf("d"),)), "y", leaf("e"))), leaf("f", ("", "u")),
        hole("h"),
    ))

    def refused(self, path, to, at, told):
        """Checks the BadPath of both, that of the PATHs."""
        for asked in (lambda: moved(self.PART, path, to, at), lambda: stuck_by(self.PART, path, to)):
            with self.assertRaises(BadPath) as caught:
                asked()
            self.assertIs(caught.exception.path, told)

    def test_bad_part_first(self):
        for thing in ODD + (Hostile(), Yes(), row_of(61), chain_of(9)):
            with self.assertRaises(BadPart):
                moved(thing, None, None, None)
            with self.assertRaises(BadPart):
                stuck_by(thing, None, None)

    def test_then_what_is_always_refused(self):
        for path, to, at in (((1,), (), 0), (None, None, None), ((), (), -1)):
            with self.assertRaises(BadQuestion):
                moved(REFUSED, path, to, at)
            with self.assertRaises(BadQuestion):
                stuck_by(REFUSED, path, to)

    def test_then_the_path_of_anything(self):
        for path in ODD + ((), (2,), (3,), (-1,), (0, 0), (0, 4), (0, 1, 0, 0), (True,), [0], "0", ("0",), 0):
            for to, at in (((), 0), (None, None), ((7,), -1)):
                self.refused(path, to, at, path)

    def test_then_the_goal_of_anything(self):
        for to in ODD + ((2,), (3,), (-1,), (0, 0), (0, 4), (True,), [0], "0", ("0",), 1):
            for at in (0, None):
                self.refused((1,), to, at, to)
        for path, to in (((0,), (0,)), ((0,), (0, 1)), ((0,), (0, 1, 0)), ((0, 1), (0, 1)), ((0, 1), (0, 1, 0)), ((1,), (1,))):
            self.refused(path, to, None, to)

    def test_then_the_number_of_anything(self):
        for at in ODD + (-1, 4, 5, 10 ** 40, "0", (0,), None, True, False):
            if not isinstance(at, int) or isinstance(at, bool) or not 0 <= at <= 2:
                with self.assertRaises(BadPath) as caught:
                    moved(self.PART, (1,), (), at)
                self.assertIs(caught.exception.path, at)
        for path, to, many in (((1,), (), 2), ((0, 1), (1,), 0), ((0, 1), (), 3), ((0, 1), (0, 3), 0), ((0, 3), (0,), 3)):
            with self.assertRaises(BadPath) as caught:
                moved(self.PART, path, to, many + 1)
            self.assertEqual(caught.exception.path, many + 1)
            with self.assertRaises(BadPath) as caught:
                moved(self.PART, path, to, -1)
            self.assertEqual(caught.exception.path, -1)

    def test_then_more_than_eight_levels(self):
        inner = element(("", "b"), children=(element(("", "c"), (("", "u"),)),))
        part = element(("", "a"), children=("x", inner, "y", chain_of(7)))
        deep = (3,) + (0,) * 6
        for length in range(1, 8):
            to = deep[:length]
            with self.assertRaises(BadPath) as caught:
                moved(part, (1,), to, 0)
            # TEXTs would stand side by side, too, but this is told behind the LEVELs.
            self.assertEqual(caught.exception.path, to if length + 1 + 2 > 8 else (1,))
        apart = part[:4] + ((inner, chain_of(7)),)
        self.assertEqual(len(paths(moved(apart, (0,), (1,) + (0,) * 4, 0))), 10)
        for length in (5, 6):
            with self.assertRaises(BadPath):
                moved(apart, (0,), (1,) + (0,) * length, 0)
        self.assertEqual(stuck_by(apart, (0,), (1,) + (0,) * 6), ())
        leafless = part[:4] + ((element(), chain_of(7)),)
        self.assertEqual(len(paths(moved(leafless, (0,), (1,) + (0,) * 5, 0))[-1]), 7)
        with self.assertRaises(BadPath) as caught:
            moved(leafless, (0,), (1,) + (0,) * 6, 0)
        self.assertEqual(caught.exception.path, (1,) + (0,) * 6)

    def test_then_texts_side_by_side(self):
        for to, at in (((), 0), ((1,), 0), ((0,), 0), ((0,), 2), ((0,), 3), ((0, 3), 0)):
            with self.assertRaises(BadPath) as caught:
                moved(self.PART, (0, 1), to, at)
            self.assertEqual(caught.exception.path, (0, 1))
        self.assertEqual(moved(self.PART, (0, 1), (0,), 1), self.PART)
        for children in (("x", leaf("b")), (leaf("b"), "x"), ("x", leaf("b"), hole("h"), "y"), ("x", hole("h"), leaf("b"), "y")):
            part = element(children=children + (leaf("z"),))
            number = children.index(leaf("b"))
            told = moved(part, (number,), (len(children),), 0)
            self.assertEqual(told, element(children=tuple(
                one for one in children if one != leaf("b")
            ) + (element(("", "z"), children=(leaf("b"),)),)))

    def test_then_stuck_by_the_first_prefix(self):
        with self.assertRaises(Stuck) as caught:
            moved(self.PART, (0, 3), (1,), 0)
        self.assertEqual(caught.exception.prefix, "")
        one = element(("r", "b"), (), ((("q", "c"), ("p", "c")),))
        part = element(("", "a"), children=(one, element(("", "d"), (("q", ""), ("p", "u"), ("r", "v"), ("s", "w")))))
        self.assertEqual(stuck_by(part, (0,), (1,)), ("p", "q", "r"))
        with self.assertRaises(Stuck) as caught:
            moved(part, (0,), (1,), 0)
        self.assertEqual(caught.exception.prefix, "p")
        self.assertEqual(stuck_by(part, (1,), (0,)), ())

    def test_stuck_by(self):
        self.assertEqual(stuck_by(self.PART, (0,), (1,)), ("",))
        self.assertEqual(stuck_by(self.PART, (0, 1), (1,)), ("",))
        self.assertEqual(stuck_by(self.PART, (0, 1), ()), ())
        self.assertEqual(stuck_by(self.PART, (1,), (0,)), ())
        part = element(("p", "a"), children=(element(("q", "b"), (("q", "v"),), (), (element(("q", "c")),)), element(("p", "d"), (("q", "u"),))))
        self.assertEqual(stuck_by(part, (0,), (1,)), ())
        self.assertEqual(moved(part, (0,), (1,), 0)[4][0][4][0][2], (("q", "v"),))

    def test_stuck_by_tells_of_places_where_it_cannot_stand(self):
        self.assertEqual(stuck_by(element(children=("x", element(("p", "b")), "y", leaf("c", ("p", "u")))), (1,), (3,)), ("p",))

    def test_no_argument_is_changed_and_equal_calls_are_equal(self):
        before = copy.deepcopy(self.PART)
        self.assertEqual(moved(self.PART, (0, 3), (), 1), moved(before, (0, 3), (), 1))
        self.assertEqual(stuck_by(self.PART, (0, 3), (1,)), stuck_by(before, (0, 3), (1,)))
        self.assertEqual(self.PART, before)


if __name__ == "__main__":
    unittest.main()
