import copy
import unittest

from prefixgraft import parts
from prefixgraft.errors import BadPart, BadPath, GraftError
from tests.samples import ODD, Hostile, Yes, chain_of, deep_list, element, hole, row_of

LETTERS = "abcdefghijklmnopqrstuvwxyz"
OTHER_SIGNS = "ABZ0189 ./:-_@{}\"<>=&~!,;'()[]\n"
ADDRESS_SIGNS = LETTERS + "0123456789./:-"
PLAIN_SIGNS = LETTERS + "0123456789 ./-"
ALL_SIGNS = [chr(code) for code in range(32, 127) if code != 37] + ["\n"]


def strings_are(question, allowed, least, most):
    """The strings, up to beyond the bound, of which a question has not the answer that is wanted."""
    wrong = []
    for sign in ALL_SIGNS:
        for text in (sign, "a" + sign, sign + "a", "aa" + sign + "a"):
            if question(text) is not all(one in allowed for one in text):
                wrong.append(text)
    for many in list(range(most + 4)) + [19999]:
        if question("a" * many) is not (least <= many <= most):
            wrong.append("a" * many)
    return wrong


class Signs(unittest.TestCase):
    def test_prefixes(self):
        self.assertEqual(strings_are(parts.is_prefix, LETTERS, 0, 8), [])
        self.assertIs(parts.is_prefix(""), True)
        self.assertIs(parts.is_prefix("abcdefgh"), True)
        self.assertIs(parts.is_prefix("abcdefghi"), False)

    def test_locals(self):
        self.assertEqual(strings_are(parts.is_local, LETTERS, 1, 8), [])
        self.assertIs(parts.is_local(""), False)
        self.assertIs(parts.is_local("stuvwxyz"), True)

    def test_xmlns_is_neither_prefix_nor_local(self):
        for question in (parts.is_prefix, parts.is_local):
            self.assertIs(question("xmlns"), False)
            self.assertIs(question("xmln"), True)
            self.assertIs(question("xmlnss"), True)
            self.assertIs(question("xml"), True)

    def test_addresses(self):
        self.assertEqual(strings_are(parts.is_address, ADDRESS_SIGNS, 1, 20), [])
        self.assertIs(parts.is_address(""), False)
        self.assertIs(parts.is_address("xmlns"), True)
        self.assertIs(parts.is_address("http://a-b.c/0123456"), True)
        self.assertIs(parts.is_address("http://a-b.c/01234567"), False)

    def test_names(self):
        for name in (("", "a"), ("p", "a"), ("abcdefgh", "abcdefgh"), ("a", "a")):
            self.assertIs(parts.is_name(name), True)
        wrong = (
            ("p", ""), ("xmlns", "a"), ("p", "xmlns"), ("P", "a"), ("p", "a1"), ("abcdefghi", "a"), ("p", "abcdefghi"),
            ("p",), (), ("p", "a", "b"), ["p", "a"], "pa", {"p": "a"}, (b"p", "a"), ("p", None), (None, "a"), ("p", []),
        )
        for thing in wrong:
            with self.subTest(thing):
                self.assertIs(parts.is_name(thing), False)

    def test_anything_else_is_none_of_them(self):
        for question in (parts.is_prefix, parts.is_local, parts.is_address, parts.is_name):
            for index, thing in enumerate(ODD):
                with self.subTest(question.__name__, index=index):
                    self.assertIs(question(thing), False)


class Refusing(unittest.TestCase):
    def refused(self, thing, path, item):
        for asked in (
            parts.need_part, parts.holes, parts.prefixes, parts.paths,
            lambda part: parts.element_at(part, ()), lambda part: parts.element_at(part, "none"),
        ):
            with self.assertRaises(BadPart) as caught:
                asked(thing)
            self.assertEqual((caught.exception.path, caught.exception.item), (path, item))
            self.assertIs(type(caught.exception.path), tuple)

    def taken(self, thing):
        self.assertIs(parts.need_part(thing), thing)

    def test_parts_are_taken(self):
        self.taken(element())
        self.taken(element(("p", "a"), (("p", "u"), ("", "v"), ("q", "")), ((("q", "b"), "x"), (("", "b"), ""))))
        self.taken(element(children=("a", element(), "b", hole("h"), "c", element(), element(), hole("g"), hole("i"))))

    def test_form(self):
        for thing in ODD + (
            (), "", "element", ("element",), element()[:4], element() + ((),), list(element()), ("hole", "h"),
            ("Element",) + element()[1:], (b"element",) + element()[1:], (None,) + element()[1:],
            (Hostile(),) + element()[1:], (Yes(),) + element()[1:], "so", ("hole",) + element()[1:],
        ):
            self.refused(thing, (), "form")

    def test_name(self):
        for name in ODD + ("a", ("", ""), ("p", "xmlns"), ("xmlns", "a"), ["", "a"], ("", "A"), ("", "a", "")):
            self.refused(element(name), (), "name")

    def test_declarations(self):
        fine = ("p", "u")
        for one in ODD + ("pu", ("p",), ("p", "u", ""), ["p", "u"], ("xmlns", "u"), ("p", "U"), ("p", None), ("p", 1),
                          ("p", "a" * 21), ("abcdefghi", "u"), (None, "u"), ("p", " "), ("p", ("", "a"))):
            self.refused(element(declarations=(one,)), (), "declarations")
            self.refused(element(declarations=(fine, one)), (), "declarations")
        for thing in (None, [], [fine], {"p": "u"}, "", "p", 0, False, fine, Hostile(), deep_list()):
            self.refused(element(declarations=thing), (), "declarations")
        self.taken(element(declarations=(("p", "a" * 20), ("q", "xmlns"), ("", ""), ("r", ""))))

    def test_no_prefix_is_declared_twice(self):
        self.refused(element(declarations=(("p", "u"), ("q", "u"), ("p", "v"))), (), "declarations")
        self.refused(element(declarations=(("p", "u"), ("p", "u"))), (), "declarations")
        self.refused(element(declarations=(("", "u"), ("", ""))), (), "declarations")
        self.taken(element(declarations=(("p", "u"), ("q", "u")), children=(element(declarations=(("p", "u"),)),)))

    def test_attributes(self):
        fine = (("", "b"), "x")
        for one in ODD + ("ab", (("", "b"),), (("", "b"), "x", "y"), [("", "b"), "x"], (["", "b"], "x"), ("b", "x"),
                          (("", "xmlns"), "x"), (("", ""), "x"), (("", "b"), None), (("", "b"), 1), (("", "b"), True),
                          (("", "b"), ["", "c"]), (("", "b"), ("", "")), (("", "b"), ()), (("", "b"), Hostile())):
            self.refused(element(attributes=(one,)), (), "attributes")
            self.refused(element(attributes=(fine, one)), (), "attributes")
        for thing in (None, [], [fine], {}, "", 0, False, fine, Hostile(), deep_list()):
            self.refused(element(attributes=thing), (), "attributes")

    def test_values(self):
        def answer(text):
            try:
                parts.need_part(element(attributes=((("", "b"), text),)))
            except BadPart as wrong:
                self.assertEqual((wrong.path, wrong.item), ((), "attributes"))
                return False
            return True

        self.assertEqual(strings_are(answer, PLAIN_SIGNS, 0, 20), [])
        self.taken(element(attributes=((("", "b"), ("", "c")), (("", "c"), ("abcdefgh", "abcdefgh")))))

    def test_no_attribute_stands_twice(self):
        self.refused(element(attributes=((("p", "b"), "x"), (("", "b"), "x"), (("p", "b"), "y"))), (), "attributes")
        self.refused(element(attributes=((("", "b"), "x"), (("", "b"), ("", "c")))), (), "attributes")
        self.taken(element(attributes=((("p", "b"), "x"), (("", "b"), "x"), (("q", "b"), "x"), (("p", "c"), "x"))))

    def test_children(self):
        for one in ODD + ((), ("hole",), ("hole", ""), ("hole", "h", "h"), ("hole", "abcdefghi"), ("hole", "H"),
                          ("hole", None), ("hole", ["h"]), ["hole", "h"], list(element()), ("text", "a"), ("hole", "h1"),
                          ("hole", b"h"), (Yes(), "h"), (Hostile(), "h"), ("Element",), b"element", ""):
            self.refused(element(children=(one,)), (), "children")
            self.refused(element(children=(element(), "x", hole("g"), one)), (), "children")
        for thing in (None, [], [element()], {}, "", "text", 0, False, element(), hole("h"), Hostile(), deep_list()):
            self.refused(element(children=thing), (), "children")
        self.taken(element(children=(hole("h"), hole("abcdefgh"), hole("xmlns"))))

    def test_texts(self):
        def answer(text):
            try:
                parts.need_part(element(children=(text,)))
            except BadPart as wrong:
                self.assertEqual((wrong.path, wrong.item), ((), "children"))
                return False
            return True

        self.assertEqual(strings_are(answer, PLAIN_SIGNS, 1, 20), [])

    def test_no_two_texts_stand_side_by_side(self):
        self.refused(element(children=("a", "b")), (), "children")
        self.refused(element(children=(element(), "a", "a", element())), (), "children")
        self.refused(element(children=("a", hole("h"), "b", "c")), (), "children")
        self.taken(element(children=("a", hole("h"), "a", element(), "a")))

    def test_the_first_item_that_is_wrong_is_told(self):
        self.refused(("element", 0, 0, 0, 0), (), "name")
        self.refused(("element", ("", "a"), 0, 0, 0), (), "declarations")
        self.refused(("element", ("", "a"), (), 0, 0), (), "attributes")
        self.refused(("element", ("", "a"), (), (), 0), (), "children")
        self.refused(("element", 0, 0, 0, 0, 0), (), "form")

    def test_the_first_element_in_the_order_is_told(self):
        bad = element("bad")
        worse = ("element",)
        self.refused(element(children=("a", bad, worse)), (1,), "name")
        self.refused(element(children=("a", worse, bad)), (1,), "form")
        self.refused(element(children=(element(children=(element(), hole("h"), worse)), bad)), (0, 2), "form")
        self.refused(element(children=(element(children=(0,)), worse)), (0,), "children")
        self.refused(element(children=(element(children=(worse,)), 0)), (), "children")
        self.refused(element(children=(element(children=(element(), element(children=(bad,)))), worse)), (0, 1, 0), "name")

    def test_sixty_elements_and_not_one_more(self):
        self.assertEqual((parts.MOST_ELEMENTS, parts.MOST_LEVELS), (60, 8))
        self.taken(row_of(60))
        self.refused(row_of(61), (59,), "form")
        self.refused(row_of(90), (59,), "form")
        wide = element(children=(row_of(30), "a", row_of(29)))
        self.taken(wide)
        self.refused(element(children=(row_of(30), "a", row_of(30))), (2, 28), "form")
        self.refused(element(children=wide[4] + (element("bad"),)), (3,), "form")
        self.refused(element(children=(element("bad"),) + (element(),) * 80), (0,), "name")

    def test_eight_levels_and_not_one_more(self):
        self.taken(chain_of(8))
        self.refused(chain_of(9), (0,) * 8, "form")
        self.refused(chain_of(200), (0,) * 8, "form")
        self.refused(element(children=(chain_of(8), element("bad"))), (0,) * 8, "form")
        self.refused(element(children=(element("bad"), chain_of(8))), (0,), "name")
        self.refused(element(children=(chain_of(7), element(), "a", chain_of(8))), (3,) + (0,) * 7, "form")
        ninth = ("element",)
        for _ in range(8):
            ninth = element(children=("a", ninth))
        self.refused(ninth, (1,) * 8, "form")

    def test_holes_and_texts_are_no_level_and_no_elements(self):
        many = tuple(hole(first + second) for first in LETTERS for second in LETTERS)
        self.taken(element(children=many))
        part = element(children=(hole("h"), "text"))
        for _ in range(7):
            part = element(children=(part,))
        self.taken(part)

    def test_no_two_holes_have_the_same_string(self):
        self.refused(element(children=(hole("h"), hole("h"))), (), "hole")
        self.refused(element(children=(hole("h"), element(children=(hole("g"), hole("h"))))), (1,), "hole")
        # The ELEMENT around comes first in the order of ELEMENTs, also where its HOLE stands behind.
        self.refused(element(children=(element(children=(hole("h"),)), hole("h"))), (0,), "hole")
        inner = element(children=(element(children=(hole("h"),)),))
        self.refused(element(children=(inner, element(children=(hole("h"),)))), (1,), "hole")
        self.refused(element(children=(inner, element(), element(children=(hole("g"), hole("h"), hole("g"))))), (2,), "hole")
        self.refused(element(children=(hole("a"), inner, element(children=(hole("a"), hole("h"))))), (2,), "hole")

    def test_equal_holes_are_behind_all_else(self):
        twice = element(children=(hole("h"), hole("h"), element()))
        self.refused(element(children=(twice, element("bad"))), (1,), "name")
        self.refused(element(children=(twice,) + (element(),) * 58), (58,), "form")
        self.refused(element(children=(twice, chain_of(8))), (1,) + (0,) * 7, "form")
        self.refused(element(children=(twice, element(children=(0,)))), (1,), "children")
        self.refused(element(children=(twice, element())), (0,), "hole")


class Asking(unittest.TestCase):
    part = element(
        ("p", "a"), (("p", "u"), ("zz", "")), ((("q", "b"), ("r", "c")), (("s", "d"), "x")),
        ("so", element(("o", "a"), (), (), (hole("z"), element(("p", "e"), (("m", "v"),)))), hole("b"), element()),
    )

    def test_holes_ascend(self):
        self.assertEqual(parts.holes(self.part), ("b", "z"))
        self.assertEqual(parts.holes(element()), ())
        self.assertEqual(parts.holes(element(children=(hole("b"), hole("aa"), hole("a"), hole("ab")))), ("a", "aa", "ab", "b"))

    def test_prefixes_ascend_each_once(self):
        self.assertEqual(parts.prefixes(self.part), ("", "m", "o", "p", "q", "r", "s", "zz"))
        self.assertEqual(parts.prefixes(element(("p", "a"))), ("p",))
        self.assertEqual(parts.prefixes(element(("p", "a"), (("p", "u"), ("a", "")))), ("a", "p"))
        self.assertEqual(parts.prefixes(element(("p", "a"), (), ((("", "b"), "x"),))), ("", "p"))
        self.assertEqual(parts.prefixes(element(("p", "a"), (), ((("p", "b"), ("", "x")),))), ("", "p"))

    def test_paths_in_the_order_of_elements(self):
        self.assertEqual(parts.paths(self.part), [(), (1,), (1, 1), (3,)])
        self.assertEqual(parts.paths(element()), [()])
        self.assertEqual(parts.paths(chain_of(3)), [(), (0,), (0, 0)])
        two = element(children=(chain_of(2), chain_of(2)))
        self.assertEqual(parts.paths(two), [(), (0,), (0, 0), (1,), (1, 0)])
        self.assertEqual(len(parts.paths(row_of(60))), 60)

    def test_paths_are_the_callers_own(self):
        first = parts.paths(self.part)
        first.append("changed")
        self.assertEqual(parts.paths(self.part), [(), (1,), (1, 1), (3,)])

    def test_element_at(self):
        self.assertIs(parts.element_at(self.part, ()), self.part)
        self.assertEqual(parts.element_at(self.part, (1, 1)), element(("p", "e"), (("m", "v"),)))
        self.assertEqual(parts.element_at(self.part, (3,)), element())
        for path in parts.paths(self.part):
            self.assertEqual(parts.element_at(self.part, path)[0], "element")
        self.assertEqual(parts.element_at(chain_of(8), (0,) * 7), element())

    def test_what_leads_to_no_element(self):
        wrong = ODD + (
            (0,), (2,), (4,), (-1,), (1, 0), (1, 2), (1, -1), (1, 1, 0), (3, 0), (0, 0), (2, 0), (1, True), (1, False),
            (True, 1), (False,), [1], [], [1, 1], "", "1", ("1",), (None,), ((1,),), (b"1",), (10 ** 30,), (-10 ** 30,),
            (1,) * 5000, (Hostile(),), (Yes(),), (1, deep_list()), None, 1, {1: 1}, range(0),
        )
        for index, path in enumerate(wrong):
            with self.subTest(index=index):
                with self.assertRaises(BadPath) as caught:
                    parts.element_at(self.part, path)
                self.assertIs(caught.exception.path, path)

    def test_true_and_false_are_no_numbers(self):
        part = element(children=(element(), element()))
        self.assertEqual(parts.element_at(part, (1,)), element())
        for path in ((True,), (False,)):
            with self.assertRaises(BadPath) as caught:
                parts.element_at(part, path)
            self.assertIs(caught.exception.path, path)
        with self.assertRaises(BadPath):
            parts.element_at(part, (2,))

    def test_a_part_is_refused_ahead_of_a_path(self):
        with self.assertRaises(BadPart):
            parts.element_at(None, None)
        with self.assertRaises(GraftError):
            parts.element_at(element(), None)

    def test_nothing_is_changed_or_kept(self):
        thing = [element("bad"), ["a"]]
        held = element(declarations=thing)
        before = copy.deepcopy(held)
        with self.assertRaises(BadPart):
            parts.need_part(held)
        self.assertEqual(held, before)
        for asked in (parts.holes, parts.prefixes, parts.paths):
            self.assertEqual(asked(self.part), asked(self.part))


if __name__ == "__main__":
    unittest.main()
