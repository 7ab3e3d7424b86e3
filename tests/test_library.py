import copy
import random
import unittest

from prefixgraft.declaring import fewest, how_few
from prefixgraft.errors import BadPart, BadPath, BadQuestion, GraftError, Missing, Parts, Stuck, TooMany
from prefixgraft.grafting import moved
from prefixgraft.library import Library, under
from prefixgraft.likeness import alike, put
from prefixgraft.reading import meaning
from tests import oracles
from tests.samples import ODD, chain_of, element, hole, row_of

LEAF = element(("", "b"))
BOUND = element(("p", "a"), (("p", "u"),), (), (element(("p", "b"), (("p", "u"),)), "so", element(("q", "c"), (("q", "v"),))))
LIKE = element(("r", "a"), (("r", "u"),), (), (element(("r", "b")), "so", element(("", "c"), (("", "v"),))))
HOLED = element(("", "a"), (), (), ("so", hole("h"), element(("", "c"), (), (), (hole("k"),))))
REFUSED = element(("p", "a"), (("p", ""),))
ALSO_REFUSED = element(("", "a"), (("q", ""),), ((("q", "b"), "x"),))
MANY_PREFIXES = element(declarations=tuple((letter, "u") for letter in "abcdefghi"))

NO_WORDS = tuple(thing for thing in ODD) + (
    "", "A", "a1", "a b", " a", "a ", "a\n", "abcdefghi", "-", "a.b", "\n", "a" * 19999, ("a",), b"a", ["a"], "a:b", "@", "{h}",
)
WORDS = ("a", "abcdefgh", "xmlns", "z")


def state(library):
    """All that can be seen of a Library, without what can be undone."""
    return {word: library[word] for word in library.words()}


def filled():
    """A Library with PARTs."""
    library = Library()
    for word, part in (("leaf", LEAF), ("bound", BOUND), ("holed", HOLED), ("refused", REFUSED)):
        library[word] = part
    return library


def undone(library):
    """The states of a Library from now on back to where nothing can be undone."""
    found = [state(library)]
    while library.undo():
        found.append(state(library))
    return found


class Case(unittest.TestCase):
    def unchanged(self, kind, deed, make=filled):
        """The error that a deed raises, which leaves a Library and what can be undone as they were."""
        library = make()
        before = state(library)
        with self.assertRaises(kind) as caught:
            deed(library)
        self.assertIs(type(caught.exception), kind)
        self.assertEqual(state(library), before)
        self.assertEqual(undone(library), undone(make()))
        return caught.exception

    def missing(self, deed, name):
        self.assertIs(self.unchanged(Missing, deed).name, name)


class Keeping(Case):
    def test_an_empty_one(self):
        library = Library()
        self.assertEqual(len(library), 0)
        self.assertEqual(library.words(), ())
        self.assertIs(library.undo(), False)
        self.assertIs("a" in library, False)

    def test_parts_by_words(self):
        library = Library()
        for number, word in enumerate(WORDS):
            library[word] = row_of(number + 1)
            self.assertEqual(len(library), number + 1)
            self.assertIs(type(len(library)), int)
        for number, word in enumerate(WORDS):
            self.assertEqual(library[word], row_of(number + 1))
            self.assertIs(word in library, True)
        self.assertEqual(library.words(), ("a", "abcdefgh", "xmlns", "z"))
        self.assertIs(type(library.words()), tuple)

    def test_words_ascend(self):
        library = Library()
        for word in ("c", "ab", "b", "a", "aa"):
            library[word] = LEAF
        self.assertEqual(library.words(), ("a", "aa", "ab", "b", "c"))

    def test_a_word_again(self):
        library = filled()
        library["bound"] = LEAF
        self.assertEqual(library["bound"], LEAF)
        self.assertEqual(len(library), 4)
        library["bound"] = REFUSED
        self.assertEqual(library["bound"], REFUSED)

    def test_no_words(self):
        for word in NO_WORDS:
            for part in (LEAF, None, "so", row_of(61)):
                def deed(library):
                    library[word] = part
                self.unchanged(BadQuestion, deed)

    def test_no_parts(self):
        for part in ODD + (row_of(61), "<a/>", element(("xmlns", "a"))):
            for word in ("a", "bound"):
                def deed(library):
                    library[word] = part
                self.unchanged(BadPart, deed)
        def deed(library):
            library["new"] = element(children=(LEAF, element(attributes=())[:4]))
        error = self.unchanged(BadPart, deed)
        self.assertEqual((error.path, error.item), ((1,), "form"))

    def test_what_is_missing(self):
        for word in NO_WORDS + ("new",):
            self.missing(lambda library: library[word], word)
            self.missing(lambda library: library.forget(word), word)
            self.assertIs(word in filled(), False)
        self.unchanged(Missing, lambda library: library[1:2])

    def test_forget(self):
        library = filled()
        self.assertIsNone(library.forget("bound"))
        self.assertEqual(library.words(), ("holed", "leaf", "refused"))
        self.assertIs("bound" in library, False)
        self.assertEqual(len(library), 3)
        with self.assertRaises(Missing):
            library["bound"]
        with self.assertRaises(Missing):
            library.forget("bound")
        library["bound"] = LEAF
        self.assertEqual(library["bound"], LEAF)

    def test_libraries_do_not_share(self):
        one, other = Library(), Library()
        one["a"] = LEAF
        self.assertEqual(len(other), 0)
        self.assertIs(other.undo(), False)
        self.assertEqual(len(one), 1)

    def test_no_way_to_go_over_it(self):
        with self.assertRaises(TypeError):
            list(filled())


class Replacing(Case):
    def test_an_alike_one(self):
        library = filled()
        self.assertTrue(alike(BOUND, LIKE))
        self.assertIsNone(library.replace("bound", LIKE))
        self.assertEqual(library["bound"], LIKE)
        self.assertIsNone(library.replace("refused", ALSO_REFUSED))
        self.assertEqual(library["refused"], ALSO_REFUSED)
        self.assertIsNone(library.replace("holed", HOLED))
        self.assertEqual(undone(library), [
            {"leaf": LEAF, "bound": LIKE, "holed": HOLED, "refused": ALSO_REFUSED},
            {"leaf": LEAF, "bound": LIKE, "holed": HOLED, "refused": ALSO_REFUSED},
            {"leaf": LEAF, "bound": LIKE, "holed": HOLED, "refused": REFUSED},
        ] + undone(filled()))

    def parts(self, word, part, bound, filled_holes):
        error = self.unchanged(Parts, lambda library: library.replace(word, part))
        self.assertEqual(len(error.surrounding), bound)
        self.assertEqual(sorted(error.filling), filled_holes)
        kept = filled()[word]
        self.assertNotEqual(meaning(kept, error.surrounding, error.filling), meaning(part, error.surrounding, error.filling))

    def test_one_that_is_not_alike(self):
        self.parts("bound", LEAF, 0, [])
        self.parts("bound", BOUND[:4] + (BOUND[4][:2],), 0, [])
        self.parts("leaf", element(("", "b"), (("", ""),)), 1, [])
        self.parts("holed", HOLED[:4] + (("so", hole("k"), element(("", "c"), (), (), (hole("h"),))),), 0, ["h", "k"])
        self.parts("refused", LEAF, 0, [])
        self.parts("refused", element(("q", "a")), 1, [])
        self.parts("holed", REFUSED, 0, ["h", "k"])

    def test_errors_in_their_order(self):
        for word in NO_WORDS + ("new",):
            for part in (LEAF, None, row_of(61), MANY_PREFIXES):
                self.missing(lambda library: library.replace(word, part), word)
        for part in ODD + (row_of(61),):
            self.unchanged(BadPart, lambda library: library.replace("bound", part))
        error = self.unchanged(TooMany, lambda library: library.replace("bound", MANY_PREFIXES))
        self.assertEqual(error.most, 8)

        def many():
            library = Library()
            library["many"] = MANY_PREFIXES
            return library
        self.unchanged(TooMany, lambda library: library.replace("many", MANY_PREFIXES), many)
        self.unchanged(BadPart, lambda library: library.replace("many", None), many)


class Filling(Case):
    def test_a_hole(self):
        library = filled()
        self.assertIsNone(library.fill("holed", "h", "bound"))
        self.assertEqual(library["holed"], put(HOLED, "h", BOUND))
        self.assertEqual(library["bound"], BOUND)
        library.fill("holed", "k", "refused")
        self.assertEqual(library["holed"], put(put(HOLED, "h", BOUND), "k", REFUSED))
        self.assertEqual(undone(library)[1:], [
            dict(state(filled()), holed=put(HOLED, "h", BOUND)),
        ] + undone(filled()))

    def test_by_itself(self):
        library = Library()
        library["one"] = element(children=("so", hole("h")))
        library.fill("one", "h", "one")
        self.assertEqual(library["one"], element(children=("so", element(children=("so", hole("h"))))))
        self.unchanged(BadPart, lambda library: library.fill("holed", "h", "holed"))

    def test_errors_in_their_order(self):
        for word in NO_WORDS + ("new",):
            for name, other in (("h", "bound"), (None, None), ("zz", "new")):
                self.missing(lambda library: library.fill(word, name, other), word)
            for name in ("h", None, "zz"):
                self.missing(lambda library: library.fill("holed", name, word), word)
        for name in ODD + ("zz", "", "so", "xmlns", hole("h")):
            self.unchanged(BadQuestion, lambda library: library.fill("holed", name, "bound"))
        self.unchanged(BadQuestion, lambda library: library.fill("bound", "h", "bound"))
        self.unchanged(BadQuestion, lambda library: library.fill("holed", "zz", "holed"))

        def great():
            library = filled()
            library["great"] = row_of(59)
            library["deep"] = chain_of(7)
            return library
        error = self.unchanged(BadPart, lambda library: library.fill("holed", "h", "great"), great)
        self.assertEqual((error.path, error.item), ((2,), "form"))
        error = self.unchanged(BadPart, lambda library: library.fill("holed", "k", "deep"), great)
        self.assertEqual((error.path, error.item), ((2, 0, 0, 0, 0, 0, 0, 0), "form"))
        error = self.unchanged(BadPart, lambda library: library.fill("holed", "h", "holed"))
        self.assertEqual((error.path, error.item), ((2,), "hole"))


class Tidying(Case):
    def test_fewer_declarations(self):
        library = filled()
        self.assertEqual(library.tidy("bound"), 1)
        self.assertEqual(library["bound"], fewest(BOUND))
        self.assertEqual(library.tidy("bound"), 0)
        self.assertEqual(library["bound"], fewest(BOUND))
        self.assertIs(type(library.tidy("leaf")), int)
        self.assertEqual(undone(library), [
            dict(state(filled()), bound=fewest(BOUND))] * 3 + undone(filled())
        )

    def test_by_chance(self):
        rng = random.Random(20)
        chance = oracles.Chance(rng)
        library = Library()
        done = 0
        while done < 150:
            library["a"] = part = chance.part(many=6)
            try:
                fewer = library.tidy("a")
            except BadQuestion:
                continue
            done += 1
            self.assertEqual(library["a"], fewest(part))
            self.assertEqual(fewer, len(oracles.declarations(part)) - how_few(part))

    def test_errors(self):
        for word in NO_WORDS + ("new",):
            self.missing(lambda library: library.tidy(word), word)
        self.unchanged(BadQuestion, lambda library: library.tidy("refused"))


class Moving(Case):
    def test_a_move(self):
        library = filled()
        self.assertIsNone(library.move("bound", (0,), (2,), 0))
        self.assertEqual(library["bound"], moved(BOUND, (0,), (2,), 0))
        self.assertIsNone(library.move("holed", (2,), (), 0))
        self.assertEqual(library["holed"], moved(HOLED, (2,), (), 0))
        self.assertEqual(undone(library)[1:], [
            dict(state(filled()), bound=moved(BOUND, (0,), (2,), 0)),
        ] + undone(filled()))

    def test_errors_in_their_order(self):
        for word in NO_WORDS + ("new",):
            for path, to, at in (((0,), (2,), 0), (None, None, None), ((9,), (), -1)):
                self.missing(lambda library: library.move(word, path, to, at), word)
        for thing in ODD:
            self.unchanged(BadQuestion, lambda library: library.move("refused", thing, thing, thing))
            error = self.unchanged(BadPath, lambda library: library.move("bound", thing, None, None))
            self.assertIs(error.path, thing)
            error = self.unchanged(BadPath, lambda library: library.move("bound", (0,), thing, None))
            self.assertIs(error.path, thing)
            if type(thing) is not int or not 0 <= thing <= 1:
                error = self.unchanged(BadPath, lambda library: library.move("bound", (0,), (2,), thing))
                self.assertIs(error.path, thing)
        self.unchanged(BadPath, lambda library: library.move("bound", (), (2,), 0))
        self.unchanged(BadPath, lambda library: library.move("bound", (0,), (0,), 0))

    def test_stuck(self):
        def make():
            library = Library()
            library["a"] = element(children=(element(("p", "b")), element(("", "c"), (("p", "u"),))))
            return library
        error = self.unchanged(Stuck, lambda library: library.move("a", (0,), (1,), 0), make)
        self.assertEqual(error.prefix, "p")


class Undoing(Case):
    def test_each_kind_of_change(self):
        library = filled()
        states = undone(filled())
        for deed in (
            lambda: library.forget("leaf"),
            lambda: library.replace("bound", LIKE),
            lambda: library.replace("bound", LIKE),
            lambda: library.tidy("bound"),
            lambda: library.move("bound", (0,), (), 2),
            lambda: library.fill("holed", "h", "bound"),
            lambda: library.forget("holed"),
        ):
            deed()
            states.insert(0, state(library))
        library["holed"] = LEAF
        states.insert(0, state(library))
        library["holed"] = LEAF
        states.insert(0, state(library))
        library.forget("holed")
        states.insert(0, state(library))
        library["leaf"] = BOUND
        states.insert(0, state(library))
        self.assertEqual(undone(library), states)
        self.assertEqual(len(states), 16)
        self.assertIs(library.undo(), False)
        self.assertEqual(library, Library())

    def test_the_answer(self):
        library = Library()
        library["a"] = LEAF
        self.assertIs(library.undo(), True)
        self.assertIs(library.undo(), False)
        self.assertIs(library.undo(), False)

    def test_what_was_undone_is_gone(self):
        library = filled()
        library.undo()
        library["new"] = LEAF
        self.assertEqual(library.words(), ("bound", "holed", "leaf", "new"))
        self.assertEqual(len(undone(library)), 5)

    def test_an_undo_is_not_undone(self):
        library = Library()
        library["a"] = LEAF
        library["a"] = BOUND
        library.undo()
        self.assertEqual(library["a"], LEAF)
        library.undo()
        self.assertEqual(len(library), 0)

    def test_what_left_all_as_it_was(self):
        library = filled()
        library["leaf"] = LEAF
        library.replace("leaf", LEAF)
        library.tidy("leaf")
        library.move("holed", (2,), (), 2)
        self.assertEqual(undone(library), [state(filled())] * 4 + undone(filled()))


class Trials(Case):
    def test_a_trial(self):
        library = filled()
        with library.trial() as one:
            self.assertIs(one, library)
            library.forget("bound")
            library["new"] = LEAF
            library["leaf"] = REFUSED
            self.assertEqual(library.words(), ("holed", "leaf", "new", "refused"))
        self.assertEqual(undone(library), undone(filled()))

    def test_undone_within(self):
        library = filled()
        with library.trial():
            library["new"] = LEAF
            self.assertEqual(len(undone(library)), 6)
            self.assertEqual(library, Library())
            library["other"] = LEAF
        self.assertEqual(undone(library), undone(filled()))

    def test_ended_by_an_error(self):
        library = filled()
        for error in (ValueError("x"), KeyboardInterrupt(), Missing("a"), Parts({}, {}), StopIteration()):
            with self.assertRaises(type(error)) as caught:
                with library.trial():
                    library["new"] = LEAF
                    library.undo()
                    library.undo()
                    raise error
            self.assertIs(caught.exception, error)
            self.assertEqual(state(library), state(filled()))
        with self.assertRaises(Missing):
            with library.trial():
                library.forget("leaf")
                library.forget("leaf")
        self.assertEqual(undone(library), undone(filled()))

    def test_ended_by_a_return_and_a_break(self):
        library = filled()

        def within():
            with library.trial() as one:
                one.forget("leaf")
                return len(one)

        self.assertEqual(within(), 3)
        for _ in range(3):
            with library.trial():
                library.undo()
                break
        self.assertEqual(undone(library), undone(filled()))

    def test_deeds_ahead_of_the_block_stay(self):
        library = filled()
        made = library.trial()
        library["new"] = LEAF
        library.forget("leaf")
        with made as one:
            self.assertIs(one, library)
            library["newer"] = LEAF
            library.undo()
            library.undo()
            library.undo()
        wanted = filled()
        wanted["new"] = LEAF
        wanted.forget("leaf")
        self.assertEqual(undone(library), undone(wanted))

    def test_undone_between(self):
        library = filled()
        made = library.trial()
        library.undo()
        with made:
            library["new"] = LEAF
        self.assertEqual(undone(library), undone(filled())[1:])

    def test_deeds_behind_the_block_stay(self):
        library = filled()
        with library.trial():
            library.forget("leaf")
        library["new"] = LEAF
        wanted = filled()
        wanted["new"] = LEAF
        self.assertEqual(undone(library), undone(wanted))

    def test_one_in_another(self):
        library = filled()
        with library.trial():
            library.forget("leaf")
            library.tidy("bound")
            ahead = state(library)
            with library.trial() as one:
                self.assertIs(one, library)
                one["new"] = LEAF
                one.undo()
                one.undo()
                one["newer"] = LEAF
                with library.trial(), library.trial():
                    undone(library)
            self.assertEqual(state(library), ahead)
            self.assertIs(library.undo(), True)
            self.assertEqual(library["bound"], BOUND)
            self.assertIs(library.undo(), True)
            self.assertEqual(state(library), state(filled()))
            with self.assertRaises(ValueError):
                with library.trial():
                    library.forget("leaf")
                    raise ValueError("x")
            self.assertEqual(state(library), state(filled()))
            library["last"] = LEAF
        self.assertEqual(undone(library), undone(filled()))

    def test_made_in_another(self):
        library = filled()
        with library.trial():
            made = library.trial()
            library.forget("leaf")
        with made:
            library.forget("leaf")
            library.forget("bound")
        self.assertEqual(undone(library), undone(filled()))

    def test_a_trial_alone_is_no_change(self):
        library = filled()
        library.trial()
        with library.trial():
            pass
        self.assertEqual(undone(library), undone(filled()))

    def test_of_two_libraries(self):
        one, other = filled(), filled()
        with one.trial(), other.trial():
            one.forget("leaf")
            other.forget("bound")
            self.assertEqual((len(one), len(other)), (3, 3))
        with one.trial():
            other.forget("bound")
        self.assertEqual(undone(one), undone(filled()))
        self.assertEqual(other.words(), ("holed", "leaf", "refused"))


class Equal(Case):
    def test_however_they_came(self):
        one, other = Library(), Library()
        self.assertTrue(one == other)
        one["a"] = LEAF
        one["b"] = BOUND
        other["b"] = LIKE
        other["c"] = LEAF
        other["a"] = BOUND
        self.assertFalse(one == other)
        other.forget("c")
        other["a"] = LEAF
        self.assertFalse(one == other)
        other.replace("b", BOUND)
        self.assertTrue(one == other)
        self.assertTrue(other == one)
        self.assertFalse(one != other)
        self.assertIs(one == other, True)
        self.assertIs(one == one, True)
        other.undo()
        self.assertIs(one == other, False)
        self.assertIs(one != other, True)

    def test_alike_is_not_equal(self):
        one, other = Library(), Library()
        one["a"], other["a"] = BOUND, LIKE
        self.assertFalse(one == other)
        other["a"] = BOUND
        other["b"] = BOUND
        self.assertFalse(one == other)
        self.assertFalse(other == one)
        one["c"] = BOUND
        self.assertFalse(one == other)

    def test_what_is_no_library(self):
        for thing in ODD + ("a", {"leaf": LEAF}, ((), ()), Library):
            self.assertIs(filled() == thing, False)
            self.assertIs(Library() == thing, False)
            self.assertIs(filled() != thing, True)


class Under(Case):
    def test_what_the_deed_tells(self):
        library = filled()
        seen = []

        def deed(one):
            seen.append(one)
            one.forget("leaf")
            return ["told", len(one)]

        self.assertEqual(under(library.trial(), deed), ["told", 3])
        self.assertIs(seen[0], library)
        self.assertEqual(len(seen), 1)
        self.assertIsNone(under(library.trial(), lambda one: None))
        self.assertIs(under(library.trial(), lambda one: one), library)
        thing = object()
        self.assertIs(under(library.trial(), lambda one: thing), thing)
        self.assertEqual(undone(library), undone(filled()))

    def test_what_the_deed_raises(self):
        library = filled()
        for error in (ValueError("x"), KeyboardInterrupt(), Missing("a"), Stuck("p"), StopIteration()):
            def deed(one):
                one.forget("leaf")
                raise error
            with self.assertRaises(type(error)) as caught:
                under(library.trial(), deed)
            self.assertIs(caught.exception, error)
            self.assertEqual(state(library), state(filled()))
        with self.assertRaises(Missing):
            under(library.trial(), lambda one: one.forget("new"))
        self.assertEqual(undone(library), undone(filled()))

    def test_one_in_another(self):
        library = filled()
        self.assertEqual(under(library.trial(), lambda one: under(one.trial(), lambda two: two.tidy("bound"))), 1)
        self.assertEqual(undone(library), undone(filled()))

    def test_any_manager(self):
        told = []

        class Manager:
            def __enter__(self):
                told.append("enter")
                return "given"

            def __exit__(self, *rest):
                told.append(rest[0])

        self.assertEqual(under(Manager(), lambda one: one + "!"), "given!")
        with self.assertRaises(ZeroDivisionError):
            under(Manager(), lambda one: 1 // 0)
        self.assertEqual(told, ["enter", None, "enter", ZeroDivisionError])


class Model:
    """A library in the slowest way: all states that it had, and nothing else."""

    def __init__(self):
        self.states = [{}]

    def change(self, word, part):
        now = dict(self.states[-1])
        if part is None:
            del now[word]
        else:
            now[word] = part
        self.states.append(now)


class ByChance(Case):
    def deed(self, rng, chance, library, model):
        """Does one thing by chance to a Library and to its Model."""
        word, other = rng.choice("abc"), rng.choice("abc")
        kept = model.states[-1].get(word)
        path = lambda: tuple(rng.randint(0, 2) for _ in range(rng.randint(0, 2)))
        start, goal, at = path(), path(), rng.randint(0, 2)
        name = rng.choice("hgi")
        kind = rng.choice(("put", "put", "forget", "replace", "fill", "tidy", "move", "undo"))
        part = chance.part()
        wanted = {
            "put": lambda: part, "forget": lambda: None, "replace": lambda: fewest(kept),
            "fill": lambda: put(kept, name, model.states[-1][other]), "tidy": lambda: fewest(kept),
            "move": lambda: moved(kept, start, goal, at),
        }
        if kind == "undo":
            self.assertIs(library.undo(), len(model.states) > 1)
            model.states[1:] = model.states[1:-1]
            return True
        try:
            new = wanted[kind]()
            if kept is None and kind != "put":
                raise KeyError(word)
        except (GraftError, Stuck, KeyError):
            new = library
        done = {
            "put": lambda: library.__setitem__(word, part), "forget": lambda: library.forget(word),
            "replace": lambda: library.replace(word, fewest(library[word])), "tidy": lambda: library.tidy(word),
            "fill": lambda: library.fill(word, name, other), "move": lambda: library.move(word, start, goal, at),
        }
        if new is library:
            with self.assertRaises((GraftError, Stuck, Missing)):
                done[kind]()
            return False
        done[kind]()
        model.change(word, new)
        return True

    def run_of(self, rng, chance, library, model, left, deep=0):
        """Does things by chance, in trials too."""
        for _ in range(left):
            self.assertEqual(state(library), model.states[-1])
            if deep < 3 and rng.random() < 0.1:
                kept = list(model.states)
                with library.trial() as one:
                    self.run_of(rng, chance, one, model, rng.randint(0, 8), deep + 1)
                model.states = kept
            else:
                self.done += self.deed(rng, chance, library, model)

    def test_deeds_by_chance(self):
        self.done = 0
        for seed in range(40):
            rng = random.Random(seed)
            chance = oracles.Chance(rng)
            library, model = Library(), Model()
            self.run_of(rng, chance, library, model, 25)
            self.assertEqual(undone(library), model.states[::-1])
        self.assertGreater(self.done, 500)


class NothingIsKept(Case):
    def test_what_is_handed_in(self):
        library = filled()
        parting = self.unchanged(Parts, lambda library: library.replace("holed", LEAF))
        parting.surrounding["p"] = "changed"
        parting.filling["h"] = "changed"
        self.assertEqual(self.unchanged(Parts, lambda one: one.replace("holed", LEAF)).surrounding, {})
        surrounding, filling = {"p": "u"}, {"h": LEAF}
        own = Parts(surrounding, filling)
        self.assertIs(own.surrounding, surrounding)
        self.assertIs(own.filling, filling)
        self.assertEqual(undone(library), undone(filled()))

    def test_arguments_are_not_changed(self):
        library = filled()
        arguments = {"part": LIKE, "path": (0,), "to": (2,)}
        before = copy.deepcopy(arguments)
        library.replace("bound", arguments["part"])
        library.move("bound", arguments["path"], arguments["to"], 0)
        library["new"] = arguments["part"]
        library.tidy("new")
        self.assertEqual(arguments, before)


if __name__ == "__main__":
    unittest.main()
