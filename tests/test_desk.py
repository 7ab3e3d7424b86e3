import random
import unittest

from prefixgraft.declaring import fewest, how_few
from prefixgraft.desk import Desk
from prefixgraft.errors import GraftError, Missing, Parts, Stuck
from prefixgraft.library import Library
from prefixgraft.likeness import alike
from prefixgraft.parts import paths
from prefixgraft.sealing import safe_list
from prefixgraft.skeletons import hangs_on
from prefixgraft.texts import read_part, written
from tests import oracles
from tests.samples import ODD, chain_of, element, row_of

FORMS = {
    "leaf": "<b/>",
    "bound": '<p:a xmlns:p="u"><p:b xmlns:p="u"/>so<q:c xmlns:q="v"/></p:a>',
    "like": '<r:a xmlns:r="u"><r:b/>so<c xmlns="v"/></r:a>',
    "holed": "<a>so{h}<c>{k}</c></a>",
    "refused": '<p:a xmlns:p=""/>',
    "quoted": '<a xmlns:s="u"><q:b p:c="@r:d" e="@p:f"/><p:g h="@k:i" j="@:l"/></a>'.replace("@:l", "@l"),
}


def undone(library):
    """The states of a Library from now on back to where nothing can be undone."""
    found = []
    while True:
        found.append({word: library[word] for word in library.words()})
        if not library.undo():
            return found


class Case(unittest.TestCase):
    def setUp(self):
        self.desk = self.filled()

    def filled(self):
        """A desk with the PARTs of FORMS."""
        desk = Desk()
        for word, form in FORMS.items():
            self.assertEqual(desk.say(f"put {word} {form}"), "done")
        return desk

    def says(self, line, answer):
        told = self.desk.say(line)
        self.assertEqual(told, answer, line)
        self.assertIs(type(told), str)

    def unchanged(self, line, answer="no"):
        """Says a line that changes nothing, also not what can be undone."""
        with self.subTest(line):
            with self.desk.library.trial():
                self.says(line, answer)
                states = undone(self.desk.library)
            self.assertEqual(states, undone(self.filled().library))


class Lines(Case):
    def test_put_and_show(self):
        desk = Desk()
        self.assertEqual(desk.say("put a <a/>"), "done")
        self.assertEqual(desk.library["a"], element())
        for word, form in FORMS.items():
            self.unchanged(f"show {word}", form)
            self.assertEqual(self.desk.library[word], read_part(form))
        self.says('put leaf <a b="x  y">  so  </a>', "done")
        self.says("show leaf", '<a b="x  y">  so  </a>')
        self.says("put xmlns <a> </a>", "done")
        self.says("show xmlns", "<a> </a>")
        self.says("put put <put/>", "done")
        self.says("show put", "<put/>")

    def test_put_refuses(self):
        for line in (
            "put", "put ", "put a", "put a ", "put a  ", "put <a/>", "put  <a/>", "put A <a/>", "put a1 <a/>", "put - <a/>",
            "put abcdefghi <a/>", "put a  <a/>", "put  a <a/>", " put a <a/>", "put a <a/> ", "put a <a/>\n", "put a\n<a/>",
            "put\na <a/>", "put a <a/>x", "put a <a>", "put a so", "put a <xmlns/>", "put a <a/> <a/>", "put a b <a/>",
            "put a <a  />", 'put a <a xmlns="u" xmlns="u"/>', 'put a <a b="" b=""/>', "put a <a>{h}{h}</a>",
            "put a " + written(row_of(60)).replace("</a>", "<a/></a>"), "put a <a>" + written(chain_of(8)) + "</a>",
            "Put a <a/>", "puta <a/>", "put_a <a/>", "put a\t<a/>", "put\ta <a/>",
        ):
            self.unchanged(line)

    def test_the_greatest(self):
        for part in (row_of(60), chain_of(8)):
            self.says("put great " + written(part), "done")
            self.says("show great", written(part))
            self.says("size great", str(len(written(part))))

    def test_replace(self):
        self.says("replace bound " + FORMS["like"], "done")
        self.says("show bound", FORMS["like"])
        self.says('replace refused <a xmlns:q="" q:b="x"/>', "done")
        self.says("replace leaf <b/>", "done")
        self.says("undo", "done")
        self.says("undo", "done")
        self.says("undo", "done")
        self.says("show bound", FORMS["bound"])

    def test_replace_tells_what_parts_them(self):
        self.unchanged("replace leaf <a/>", "parts")
        self.unchanged("replace refused <a/>", "parts")
        self.unchanged("replace holed <a>so{h}<c>{h}</c></a>", "no")
        self.unchanged("replace holed <a>so{k}<c>{h}</c></a>", "parts")
        self.unchanged('replace leaf <b xmlns=""/>', "parts -=a")
        self.unchanged("replace refused <p:a/>", "parts p=a")
        self.says('put two <q:a p:b="@r:c"/>', "done")
        self.says("replace two <a/>", "parts")
        self.says('replace two <q:a xmlns="a" p:b="@r:c"/>', "done")
        self.says('replace two <q:a p:b="x"/>', self.parts("two", '<q:a p:b="x"/>', ["p", "q"]))
        self.says('replace two <q:a p:b="@s:c"/>', self.parts("two", '<q:a p:b="@s:c"/>', ["p", "q", "r"], ["p", "q", "s"]))
        self.says('put two <q:a p:b="@c"/>', "done")
        self.says('replace two <q:a xmlns="u" p:b="@c"/>', self.parts("two", '<q:a xmlns="u" p:b="@c"/>', ["p", "q"]))
        self.says('replace two <q:a xmlns="" p:b="@c"/>', self.parts("two", '<q:a xmlns="" p:b="@c"/>', ["", "p", "q"]))

    def parts(self, word, form, *bound):
        """What the answer to a replacement has to be, by what the Library raises, which binds just these PREFIXes."""
        with self.assertRaises(Parts) as caught:
            self.desk.library.replace(word, read_part(form))
        rows = sorted(caught.exception.surrounding.items())
        self.assertIn([prefix for prefix, _ in rows], bound)
        return " ".join(["parts"] + [f"{prefix or '-'}={address}" for prefix, address in rows])

    def test_replace_refuses(self):
        many = "<a " + " ".join(f'xmlns:{letter}="u"' for letter in "defghijkl") + "/>"
        for line in (
            "replace", "replace leaf", "replace leaf ", "replace new <b/>", "replace leaf so", "replace leaf  <b/>",
            "replace leaf <b/> ", "replace Leaf <b/>", "replace leaf <b", "replace  leaf <b/>", "replace leaf leaf",
            "replace leaf <b/>\n", "replace leaf\n<b/>", "replace leaf <b>{h}{h}</b>", "replace leaf " + many,
        ):
            self.unchanged(line)

    def test_forget(self):
        self.says("forget leaf", "done")
        self.says("show leaf", "no")
        self.says("forget leaf", "no")
        self.says("words", "bound holed like quoted refused")
        self.says("undo", "done")
        self.says("show leaf", FORMS["leaf"])

    def test_tidy(self):
        self.says("tidy bound", "done")
        self.says("show bound", written(fewest(read_part(FORMS["bound"]))))
        self.says("tidy bound", "done")
        self.says("tidy leaf", "done")
        self.unchanged_after_undoing(3)
        self.unchanged("tidy refused")

    def unchanged_after_undoing(self, many):
        for _ in range(many):
            self.says("undo", "done")
        self.assertEqual(undone(self.desk.library), undone(self.filled().library))
        self.desk = self.filled()

    def test_fill(self):
        self.says("fill holed h bound", "done")
        self.says("show holed", FORMS["holed"].replace("{h}", FORMS["bound"]))
        self.says("fill holed k leaf", "done")
        self.says("show holed", "<a>so" + FORMS["bound"] + "<c><b/></c></a>")
        self.says("fill holed k leaf", "no")
        self.unchanged_after_undoing(2)
        self.says("put one <a>{h}</a>", "done")
        self.says("fill one h one", "done")
        self.says("show one", "<a><a>{h}</a></a>")

    def test_fill_refuses(self):
        for line in (
            "fill holed h", "fill holed h new", "fill new h leaf", "fill leaf h leaf", "fill holed z leaf", "fill holed {h} leaf",
            "fill holed h holed", "fill holed h leaf leaf", "fill holed  h leaf", "fill holed h  leaf", "fill holed h leaf ",
            "fill holed - leaf", "fill holed h <b/>", "fill", "fill holed", "fill holed h leaf\n",
        ):
            self.unchanged(line)

    def test_move(self):
        self.says("move bound 0 2 0", "done")
        self.says("show bound", '<p:a xmlns:p="u">so<q:c xmlns:q="v"><p:b/></q:c></p:a>')
        self.says("move bound 1.0 - 0", "done")
        self.says("show bound", '<p:a xmlns:p="u"><p:b/>so<q:c xmlns:q="v"/></p:a>')
        self.says("move bound 0 - 0", "done")
        self.unchanged_after_undoing(3)
        deep = "<a>{h}<b>{i}<c>{j}<d/></c></b></a>"
        self.says("put deep " + deep, "done")
        self.says("move deep 1.1.1 1 2", "done")
        self.says("show deep", "<a>{h}<b>{i}<c>{j}</c><d/></b></a>")
        self.says("move deep 1.2 1.1 1", "done")
        self.says("show deep", deep)
        self.says("put wide <a>" + "<b/>" * 11 + "<c><d/></c></a>", "done")
        self.says("move wide 11.0 - 12", "done")
        self.says("show wide", "<a>" + "<b/>" * 11 + "<c/><d/></a>")
        self.says("move wide 12 10 0", "done")
        self.says("show wide", "<a>" + "<b/>" * 10 + "<b><d/></b><c/></a>")

    def test_move_is_stuck(self):
        self.says('put a <a><p:b/><c xmlns:p="u"/></a>', "done")
        self.says("move a 0 1 0", "stuck p")
        self.says('put b <a><q:b c="@d"/><c xmlns:q="u" xmlns=""/></a>', "done")
        self.says("move b 0 1 0", "stuck -")
        self.says('put c <a><q:b s:c="@r:d"/><c xmlns:s="u" xmlns:r="u" xmlns=""/></a>', "done")
        self.says("move c 0 1 0", "stuck r")
        self.says("undo", "done")
        self.says("show c", "no")

    def test_move_refuses(self):
        for line in (
            "move bound 0 2", "move bound 0 2 0 0", "move new 0 2 0", "move refused 0 - 0", "move bound - 2 0", "move bound 1 2 0",
            "move bound 0 0 0", "move bound 0 1 0", "move bound 0 2 1", "move bound 3 2 0", "move bound 0 2 -", "move bound 0 2 -1",
            "move bound 00 2 0", "move bound 0 02 0", "move bound 0 2 00", "move bound 0 2 01", "move bound 000 2 0",
            "move bound 0 2 000", "move bound 0. 2 0", "move bound .0 2 0", "move bound 0..0 2 0", "move bound . 2 0",
            "move bound () 2 0", "move bound 0,0 2 0", "move bound +0 2 0", "move bound 0 2 +0", "move bound 0 2 0.0",
            "move bound 0 2 x", "move bound 0 2  0", "move bound  2 0", "move bound 0 2 ", "move bound 0 2 0 ", "move bound 0 2 0\n",
            "move bound 0 2 1_0", "move bound 100 2 0", "move bound 0 2 100", "move bound 0 -- 0", "move bound 0.- 2 0",
            "move holed 1 - 0", "move leaf 0 - 0", "move", "move bound",
        ):
            self.unchanged(line)

    def test_alike(self):
        self.unchanged("alike bound like", "yes")
        self.unchanged("alike like bound", "yes")
        self.unchanged("alike bound bound", "yes")
        self.unchanged("alike bound leaf", "no")
        self.unchanged("alike refused refused", "yes")
        self.unchanged("alike refused leaf", "no")
        self.unchanged("alike bound new", "no")
        self.unchanged("alike new new", "no")

    def test_needs(self):
        self.unchanged("needs bound", "none")
        self.unchanged("needs leaf", "-")
        self.unchanged("needs quoted", "- k p q r")
        self.says('put a <q:a p:b="x"/>', "done")
        self.says("needs a", "p q")
        self.says("put a <q:a/>", "done")
        self.says("needs a", "q")
        self.says("needs refused", "none")

    def test_few(self):
        self.unchanged("few bound", "2")
        self.unchanged("few leaf", "0")
        self.unchanged("few quoted", "0")
        self.unchanged("few holed", "0")
        self.unchanged("few refused", "no")
        wide = "<a>" + "".join(f'<b xmlns="u{number}"/>' for number in range(12)) + "</a>"
        self.says("put wide " + wide, "done")
        self.says("few wide", "12")

    def test_safe(self):
        self.unchanged("safe bound", "yes")
        self.unchanged("safe leaf", "yes")
        self.unchanged("safe quoted", "- k r")
        self.unchanged("safe holed", "no")
        self.unchanged("safe refused", "no")
        self.says('put a <a b="@p:c"/>', "done")
        self.says("safe a", "p")
        self.says('put a <p:a b="@c"/>', "done")
        self.says("safe a", "-")

    def test_size(self):
        for word, form in FORMS.items():
            self.unchanged(f"size {word}", str(len(form)))

    def test_words(self):
        self.unchanged("words", "bound holed leaf like quoted refused")
        self.assertEqual(Desk().say("words"), "none")
        desk = Desk()
        desk.say("put a <a/>")
        self.assertEqual(desk.say("words"), "a")

    def test_undo(self):
        for _ in FORMS:
            self.says("undo", "done")
        self.says("words", "none")
        self.says("undo", "nothing")
        self.says("undo", "nothing")
        self.says("words", "none")

    def test_one_word_is_not_kept(self):
        for first in ("show", "forget", "tidy", "needs", "few", "safe", "size"):
            for rest in (
                "", " ", " new", " Leaf", " leaf leaf", "  leaf", " leaf ", " leaf\n", "\nleaf", " \nleaf", " -", " <b/>",
                " leaf  ", " leaf new", "leaf", " abcdefghi",
            ):
                self.unchanged(first + rest)

    def test_two_words(self):
        for rest in ("", " ", " leaf", " leaf ", " leaf  leaf", "  leaf leaf", " leaf leaf ", " leaf leaf leaf", " leaf leaf\n", " leaf\nleaf"):
            self.unchanged("alike" + rest)

    def test_no_word(self):
        for first in ("words", "undo"):
            for line in ("{} ", " {}", "{}\n", "\n{}", "{} leaf", "{}  ", "{} {}", "{}x"):
                self.unchanged(line.format(first, first))

    def test_lines_that_are_none(self):
        for line in (
            "", " ", "  ", "\n", "leaf", "<a/>", "WORDS", "Words", "word", "get leaf", "library", "say words", "undo undo",
            "words\nwords", "quit", "help", "-", "none", "no", "parts", "trial", "replaces leaf <b/>", "puts leaf <b/>",
        ):
            self.unchanged(line)

    def test_no_strings(self):
        for thing in ODD + (["words"], ("words",), b"words", [b"words"], {"words": 1}, Desk(), Library()):
            self.unchanged(thing)


class TheLibrary(Case):
    def test_it_is_the_very_one(self):
        desk = Desk()
        library = desk.library
        self.assertIs(type(library), Library)
        self.assertEqual(library, Library())
        self.assertIs(desk.library, library)
        desk.say("put a <a/>")
        self.assertIs(desk.library, library)
        self.assertEqual(library["a"], element())
        library["b"] = element(("p", "b"))
        self.assertEqual(desk.say("show b"), "<p:b/>")
        self.assertEqual(desk.say("undo"), "done")
        self.assertIs("b" in library, False)
        self.assertIs(library.undo(), True)
        self.assertEqual(desk.say("undo"), "nothing")

    def test_trials_of_it(self):
        with self.desk.library.trial() as library:
            self.assertIs(library, self.desk.library)
            self.says("forget leaf", "done")
            self.says("undo", "done")
            self.says("undo", "done")
            self.says("tidy bound", "done")
        self.says("words", "bound holed leaf like quoted refused")
        self.assertEqual(undone(self.desk.library), undone(self.filled().library))

    def test_it_is_a_property(self):
        self.assertIsInstance(vars(Desk)["library"], property)
        with self.assertRaises(AttributeError):
            Desk().library = Library()

    def test_each_desk_has_its_own(self):
        one, other = Desk(), Desk()
        one.say("put a <a/>")
        self.assertEqual(other.say("words"), "none")
        self.assertIsNot(one.library, other.library)

    def test_equal_lines_equal_answers(self):
        for line in ("words", "show leaf", "size bound", "needs quoted", "safe quoted", "replace leaf <a/>", "alike a b", "", None):
            self.assertEqual(self.desk.say(line), self.desk.say(line))


class ByChance(unittest.TestCase):
    def line(self, rng, chance, library):
        """A line by chance, and what it asks for as a function of a Library."""
        word, other = rng.choice("abc"), rng.choice("abc")
        part = chance.part(many=rng.randint(1, 7))
        if word in library and rng.random() < 0.3:
            part = library[word]
        form = written(part)
        inner = paths(library[word]) if word in library else [()]
        path, to = rng.choice(inner[1:] + [(0,), (7, 1)]), rng.choice(inner + [(1,)])
        at = rng.randint(0, 2)
        shown = [".".join(map(str, one)) or "-" for one in (path, to)]
        dashed = lambda told: " ".join(one or "-" for one in told)
        return rng.choice((
            (f"put {word} {form}", lambda one: one.__setitem__(word, part)),
            (f"put {word} {form}", lambda one: one.__setitem__(word, part)),
            (f"replace {word} {form}", lambda one: one.replace(word, part)),
            (f"show {word}", lambda one: written(one[word])),
            (f"forget {word}", lambda one: one.forget(word)),
            (f"tidy {word}", lambda one: one.tidy(word) and None),
            (f"fill {word} h {other}", lambda one: one.fill(word, "h", other)),
            (f"move {word} {shown[0]} {shown[1]} {at}", lambda one: one.move(word, path, to, at)),
            (f"move {word} {shown[0]} {shown[1]} {at}", lambda one: one.move(word, path, to, at)),
            (f"alike {word} {other}", lambda one: "yes" if alike(one[word], one[other]) else "no"),
            (f"needs {word}", lambda one: dashed(hangs_on(one[word])) or "none"),
            (f"few {word}", lambda one: str(how_few(one[word]))),
            (f"safe {word}", lambda one: dashed(safe_list(one[word])) or "yes"),
            (f"size {word}", lambda one: str(len(written(one[word])))),
            ("words", lambda one: " ".join(one.words()) or "none"),
            ("undo", lambda one: "done" if one.undo() else "nothing"),
        ))

    def answer(self, library, deed):
        try:
            told = deed(library)
        except (GraftError, Missing):
            return "no"
        except Parts as parts:
            rows = sorted(parts.surrounding.items())
            return " ".join(["parts"] + [f"{prefix or '-'}={address}" for prefix, address in rows])
        except Stuck as stuck:
            return f"stuck {stuck.prefix or '-'}"
        return "done" if told is None or told == 0 else told

    def test_lines_by_chance(self):
        rng = random.Random(200)
        chance = oracles.Chance(rng, addresses=("u", "v"), locals_=("a", "b", "c", "d"))
        answers = {}
        for _ in range(40):
            desk, library = Desk(), Library()
            for _ in range(80):
                line, deed = self.line(rng, chance, library)
                told = desk.say(line)
                self.assertEqual(told, self.answer(library, deed), line)
                self.assertEqual(desk.library, library)
                answers.setdefault(line.split()[0], set()).add(told.split()[0])
            self.assertEqual(undone(desk.library), undone(library))
        self.assertEqual(answers["replace"], {"done", "no", "parts"})
        self.assertEqual(answers["move"], {"done", "no", "stuck"})
        self.assertEqual(answers["undo"], {"done", "nothing"})
        self.assertEqual(answers["fill"], {"done", "no"})


if __name__ == "__main__":
    unittest.main()
