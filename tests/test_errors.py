import unittest

from prefixgraft import errors
from tests.samples import ODD, Hostile

REFUSALS = {
    "BadPart": ("path", "item"),
    "BadText": ("place",),
    "BadSurrounding": ("prefix",),
    "BadFilling": ("hole",),
    "BadPath": ("path",),
    "TooMany": ("most",),
    "BadQuestion": (),
}
OTHERS = {
    "Parts": (RuntimeError, ("surrounding", "filling")),
    "Stuck": (RuntimeError, ("prefix",)),
    "Missing": (KeyError, ("name",)),
}


class Errors(unittest.TestCase):
    def test_graft_error_stands_straight_under_value_error(self):
        self.assertEqual(errors.GraftError.__bases__, (ValueError,))

    def test_refusals_stand_straight_under_graft_error(self):
        for name in REFUSALS:
            with self.subTest(name):
                self.assertEqual(getattr(errors, name).__bases__, (errors.GraftError,))

    def test_the_others_stand_straight_under_errors_of_python(self):
        for name, (base, _) in OTHERS.items():
            with self.subTest(name):
                self.assertEqual(getattr(errors, name).__bases__, (base,))

    def test_each_keeps_what_it_is_made_with(self):
        wanted = dict(REFUSALS)
        wanted.update({name: attributes for name, (_, attributes) in OTHERS.items()})
        for name, attributes in wanted.items():
            if not attributes:
                continue
            with self.subTest(name):
                things = [object() for _ in attributes]
                made = getattr(errors, name)(*things)
                for attribute, thing in zip(attributes, things):
                    self.assertIs(getattr(made, attribute), thing)

    def test_bad_question_is_made_with_a_text(self):
        with self.assertRaises(errors.GraftError) as caught:
            raise errors.BadQuestion("why not")
        self.assertEqual(str(caught.exception), "why not")

    def test_an_error_that_may_keep_anything_can_be_shown(self):
        for name in ("BadSurrounding", "BadFilling", "BadPath", "Stuck", "Missing"):
            for index, thing in enumerate(ODD):
                with self.subTest(name, index=index):
                    self.assertIsInstance(str(getattr(errors, name)(thing)), str)
        self.assertIsInstance(str(errors.Parts(Hostile(), Hostile())), str)

    def test_an_error_keeps_the_very_thing(self):
        thing = {"p": "u"}
        made = errors.Parts(thing, None)
        thing["q"] = "v"
        self.assertEqual((made.surrounding, made.filling), ({"p": "u", "q": "v"}, None))


if __name__ == "__main__":
    unittest.main()
