import random
import unittest

from prefixgraft.errors import BadPart, BadText
from prefixgraft.parts import need_part
from prefixgraft.texts import read_part, size_of, written
from tests import oracles
from tests.samples import ODD, chain_of, element, hole, row_of

EXAMPLE = '<a xmlns="u" b="x" p:c="@p:d">so{h}</a>'
EXAMPLE_PART = element(
    ("", "a"), (("", "u"),), ((("", "b"), "x"), (("p", "c"), ("p", "d"))), ("so", hole("h")),
)

# PARTs beside their written forms.
FORMS = (
    (EXAMPLE_PART, EXAMPLE),
    (element(), "<a/>"),
    (element(("p", "a")), "<p:a/>"),
    (element(("abcdefgh", "ijklmnop")), "<abcdefgh:ijklmnop/>"),
    (element(declarations=(("", ""),)), '<a xmlns=""/>'),
    (element(declarations=(("p", ""),)), '<a xmlns:p=""/>'),
    (element(declarations=(("p", "u"), ("", "v.w/x:y-z0"))), '<a xmlns:p="u" xmlns="v.w/x:y-z0"/>'),
    (element(declarations=(("xml", "xmlns"),)), '<a xmlns:xml="xmlns"/>'),
    (element(declarations=(("", "a" * 20),)), '<a xmlns="' + "a" * 20 + '"/>'),
    (element(attributes=((("", "b"), ""),)), '<a b=""/>'),
    (element(attributes=((("", "b"), " x  y./-0 "),)), '<a b=" x  y./-0 "/>'),
    (element(attributes=((("", "b"), "b" * 20),)), '<a b="' + "b" * 20 + '"/>'),
    (element(attributes=((("", "b"), ("", "c")),)), '<a b="@c"/>'),
    (element(attributes=((("p", "b"), ("q", "c")), (("", "b"), "xmlns"))), '<a p:b="@q:c" b="xmlns"/>'),
    (element(attributes=((("", "xmlnsa"), "x"), (("xmlnsp", "b"), "x"))), '<a xmlnsa="x" xmlnsp:b="x"/>'),
    (element(("", "xmln")), "<xmln/>"),
    (element(children=("so",)), "<a>so</a>"),
    (element(children=(" ",)), "<a> </a>"),
    (element(children=("x" * 20,)), "<a>" + "x" * 20 + "</a>"),
    (element(children=(hole("xmlns"),)), "<a>{xmlns}</a>"),
    (element(children=(hole("h"), hole("abcdefgh"))), "<a>{h}{abcdefgh}</a>"),
    (element(children=("so", hole("h"), "so", element(("", "b")), "xmlns")), "<a>so{h}so<b/>xmlns</a>"),
    (element(("p", "a"), children=(element(("p", "a"), children=("x",)),)), "<p:a><p:a>x</p:a></p:a>"),
)

# Strings that are no written forms, beside the number of the character with which none goes on.
WRONG = (
    ("", 0), (" ", 0), (" <a/>", 0), ("a", 0), ("so", 0), ("{h}", 0), ("\n", 0), ("/", 0), (">", 0), ("</a>", 1),
    ("<", 1), ("< a/>", 1), ("</>", 1), ("<:a/>", 1), ("<A/>", 1), ("<1/>", 1), ("<a", 2), ("<a/", 3), ("<a//>", 3),
    ("<a>", 3), ("<a ", 3), ("<a />", 3), ("<a  b=\"\"/>", 3), ("<a\n/>", 2), ("<a/>x", 4), ("<a/> ", 4), ("<a/>\n", 4),
    ("<a/><a/>", 4), ("<a></a>", 4), ("<a><", 4), ("<a>x</", 6), ("<a>x</b>", 6), ("<a>x</a", 7), ("<a>x</a >", 7),
    ("<a>x</ab>", 7), ("<ab>x</a>", 8), ("<p:a>x</a>", 8), ("<a>x</p:a>", 6), ("<p:a>x</p:b>", 10), ("<a>x</a>x", 8),
    ("<abcdefghi/>", 9), ("<abcdefgh", 9), ("<abcdefgh:", 10), ("<p:abcdefghi/>", 11), ("<abcdefghi:a/>", 9),
    ("<p:/>", 3), ("<p::a/>", 3), ("<p:a:b/>", 4), ("<a1/>", 2), ("<a.b/>", 2),
    ("<xmlns/>", 6), ("<xmlns", 6), ("<xmlns>", 6), ("<xmlns:a/>", 6), ("<xmlns b=\"\"/>", 6), ("<a:xmlns/>", 8),
    ("<a:xmlns", 8), ("<a xmlns", 8), ("<a xmlns/>", 8), ("<a xmlns>", 8), ("<a xmlns ", 8), ("<a xmlns=", 9),
    ("<a xmlns=u/>", 9), ("<a xmlns='u'/>", 9), ('<a xmlns="', 10), ('<a xmlns="u', 11), ('<a xmlns="u"', 12),
    ('<a xmlns="U"/>', 10), ('<a xmlns="u v"/>', 11), ('<a xmlns="@p"/>', 10), ('<a xmlns="u"b=""/>', 12),
    ("<a xmlns:", 9), ('<a xmlns:="u"/>', 9), ("<a xmlns:p", 10), ("<a xmlns:p/>", 10), ('<a xmlns:p:q="u"/>', 10),
    ('<a xmlns:xmlns="u"/>', 14), ('<a xmlns:xmlns', 14), ('<a xmlns:abcdefghi="u"/>', 17),
    ('<a b="" xmlns="u"/>', 13), ('<a b="" xmlns:p="u"/>', 13), ('<a b="" xmlns', 13), ('<a b="" xmlnsp:c="u" xmlns="u"/>', 26),
    ('<a xmlns:p="u" b="" xmlns:q="u"/>', 25),
    ("<a b", 4), ("<a b/>", 4), ("<a b>", 4), ("<a b=", 5), ("<a b=x/>", 5), ('<a b="', 6), ('<a b="x', 7), ('<a b="x"', 8),
    ('<a b="x"c="x"/>', 8), ('<a b ="x"/>', 4), ('<a b= "x"/>', 5), ('<a b="X"/>', 6), ('<a b="x:y"/>', 7),
    ('<a b="x\n"/>', 7), ('<a b="<"/>', 6), ('<a b="@"/>', 7), ('<a b="@', 7), ('<a b="@@p"/>', 7), ('<a b="x@p"/>', 7),
    ('<a b="@p:"/>', 9), ('<a b="@p:q', 10), ('<a b="@p q"/>', 8), ('<a b="@xmlns"/>', 12), ('<a b="@xmlns:p"/>', 12),
    ('<a b="@p:xmlns"/>', 14), ('<a b="@abcdefghi"/>', 15), ('<a abcdefghi="x"/>', 11), ('<a xmlnsabcd="x"/>', 11),
    ('<a p:xmlns="x"/>', 10), ("<a>{", 4), ("<a>{}</a>", 4), ("<a>{h", 5), ("<a>{h</a>", 5), ("<a>{p:h}</a>", 5),
    ("<a>{abcdefghi}</a>", 12), ("<a>{h}", 6), ("<a>{H}</a>", 4), ("<a>{h1}</a>", 5), ("<a>}</a>", 3), ("<a>so", 5),
    ("<a>S</a>", 3), ("<a>so:</a>", 5), ("<a>so\n</a>", 5), ('<a>"</a>', 3), ("<a>@</a>", 3), ("<a>></a>", 3),
    ("<a>&lt;</a>", 3), ("<a><b></b></a>", 7), ("<a><b/></b>", 9), ("<a><b>x</a></b>", 9), ("<a><b/>", 7), ("<a><!-- x --></a>", 4),
)


class Written(unittest.TestCase):
    def test_the_forms(self):
        for part, form in FORMS:
            need_part(part)
            with self.subTest(form):
                self.assertEqual(written(part), form)
                self.assertEqual(size_of(part), len(form))
                self.assertEqual(read_part(form), part)

    def test_size_is_an_integer(self):
        self.assertIs(type(size_of(element())), int)
        self.assertEqual(size_of(EXAMPLE_PART), 39)

    def test_declarations_and_attributes_as_they_stand(self):
        one = element(declarations=(("q", "u"), ("", "v"), ("p", "")), attributes=((("q", "b"), "x"), (("", "b"), "y")))
        self.assertEqual(written(one), '<a xmlns:q="u" xmlns="v" xmlns:p="" q:b="x" b="y"/>')

    def test_there_and_back(self):
        rng = random.Random(19)
        chance = oracles.Chance(rng)
        forms = {}
        for _ in range(1500):
            part = chance.part(many=rng.randint(1, 9), levels=rng.randint(1, 5))
            form = written(part)
            self.assertEqual(read_part(form), part)
            self.assertEqual(size_of(part), len(form))
            self.assertIsNone(oracles.text_fault(form))
            self.assertEqual(forms.setdefault(form, part), part)
        self.assertEqual(len(set(forms.values())), len(forms))
        self.assertGreater(len(forms), 700)

    def test_the_greatest(self):
        for part in (row_of(60), chain_of(8)):
            self.assertEqual(read_part(written(part)), part)
        wide = element(attributes=tuple((("p" * 8, "b" * many), "x" * 20) for many in range(1, 9)))
        full = element(("q" * 8, "a" * 8), children=(wide,) * 59)
        self.assertEqual(read_part(written(full)), full)

    def test_bad_part(self):
        for thing in ODD + ("<a/>", row_of(61), chain_of(9), element(("xmlns", "a"))):
            for asked in (written, size_of):
                with self.assertRaises(BadPart) as caught:
                    asked(thing)
                if isinstance(thing, str) or thing is None:
                    self.assertEqual((caught.exception.path, caught.exception.item), ((), "form"))


class Reading(unittest.TestCase):
    def refused(self, thing, place):
        with self.assertRaises(BadText) as caught:
            read_part(thing)
        if place is None:
            self.assertIsNone(caught.exception.place)
        else:
            self.assertEqual(caught.exception.place, place)
            self.assertIs(type(caught.exception.place), int)

    def test_no_string(self):
        for thing in ODD + (EXAMPLE_PART, EXAMPLE.encode(), [EXAMPLE], list(EXAMPLE), (EXAMPLE,)):
            self.refused(thing, None)

    def test_no_written_form(self):
        for text, place in WRONG:
            with self.subTest(text):
                self.assertEqual(oracles.text_fault(text), place)
                self.refused(text, place)

    def test_each_beginning_has_to_go_on(self):
        for _, form in FORMS:
            for length in range(len(form)):
                self.refused(form[:length], length)

    def test_what_stands_behind(self):
        for _, form in FORMS:
            for more in ("<", " ", "\n", "a", "/", form):
                self.refused(form + more, len(form))

    def test_texts_that_were_changed(self):
        rng = random.Random(1919)
        chance = oracles.Chance(rng, locals_=("a", "xmlnsa", "abcdefgh"), prefixes=("", "p", "xmln"))
        wrong = 0
        for _ in range(1200):
            text = written(chance.part(many=4))
            for _ in range(rng.randint(1, 2)):
                at = rng.randint(0, len(text))
                more = rng.choice(["", "<", ">", "/", ' ', '"', "=", ":", "@", "{", "}", "a", "xmlns", "\n", "A", "p", "</a>", " b"])
                text = text[:at] + more + text[at + rng.choice((0, 0, 1, 2)):]
            place = oracles.text_fault(text)
            if place is not None:
                wrong += 1
                self.refused(text, place)
                continue
            try:
                part = read_part(text)
            except BadPart:
                continue
            self.assertEqual(written(part), text)
        self.assertGreater(wrong, 400)

    def bad_part(self, text, path, item):
        self.assertIsNone(oracles.text_fault(text))
        with self.assertRaises(BadPart) as caught:
            read_part(text)
        self.assertEqual((caught.exception.path, caught.exception.item), (path, item))

    def test_forms_of_what_is_no_part(self):
        self.bad_part('<a xmlns="' + "u" * 21 + '"/>', (), "declarations")
        self.bad_part('<a xmlns:p="u" xmlns:p="u"/>', (), "declarations")
        self.bad_part('<a xmlns="u" xmlns=""/>', (), "declarations")
        self.bad_part('<a b="' + "x" * 21 + '"/>', (), "attributes")
        self.bad_part('<a b="x" c="" b="x"/>', (), "attributes")
        self.bad_part('<a p:b="x" p:b="@p:c"/>', (), "attributes")
        self.bad_part("<a>" + "x" * 21 + "</a>", (), "children")
        self.bad_part("<a><b/>" + " " * 21 + "</a>", (), "children")
        self.bad_part("<a>{h}<b/>so<b>{h}</b></a>", (3,), "hole")
        self.bad_part('<a><b>{h}</b><b><c b="" b=""/>{h}</b></a>', (1, 0), "attributes")

    def test_very_long_strings(self):
        self.bad_part("<a>" + "x" * 19000 + "</a>", (), "children")
        self.bad_part('<a xmlns="' + "x" * 19000 + '"/>', (), "declarations")
        self.bad_part('<a b="' + "x" * 19000 + '"/>', (), "attributes")
        self.bad_part("<a>" + "<b/>" * 4000 + "</a>", (59,), "form")
        self.refused("<a>" + "x" * 19000, 19003)
        self.refused("<" + "a" * 19000, 9)

    def test_too_many_and_too_deep(self):
        self.assertEqual(read_part("<a>" + "<a/>" * 59 + "</a>"), row_of(60))
        self.bad_part("<a>" + "<a/>" * 60 + "</a>", (59,), "form")
        self.assertEqual(read_part("<a>" * 7 + "<a/>" + "</a>" * 7), chain_of(8))
        self.bad_part("<a>" * 8 + "<a/>" + "</a>" * 8, (0,) * 8, "form")
        self.bad_part("<a>" * 29 + "<a/>" + "</a>" * 29, (0,) * 8, "form")
        self.refused("<a>" * 30, 90)
        self.refused("<a>" * 29 + "<b/>" + "</a>" * 28 + "</b>", 29 * 3 + 4 + 28 * 4 + 2)

    def test_the_text_is_looked_at_ahead_of_the_part(self):
        self.refused('<a b="x" b="x">', 15)
        self.refused("<a>" + "x" * 30 + "</b>", 35)
        self.refused("<a>" + "<a/>" * 60 + "</a> ", 247)


if __name__ == "__main__":
    unittest.main()
