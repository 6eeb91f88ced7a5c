import unittest

from gloss import errors
from gloss.errors import Both, Caught, GlossError, InRing, NoRow

NAMES = (
    "NoWord", "NoForm", "NoRow", "NoEnd", "TooDeep", "NoThing", "NoPlace", "InRing", "Caught", "NoMark", "Both",
    "Itself", "Unlike", "TooLong", "NothingDone", "NoDeed",
)
MADE_WITH = {"NoRow": (7,), "InRing": ((2, 5),), "Caught": (3, 4), "Both": (3, 4, (1, 2))}


def made(name):
    return getattr(errors, name)(*MADE_WITH.get(name, ()))


class Kinship(unittest.TestCase):
    def test_gloss_error_stands_straight_under_value_error(self):
        self.assertEqual(GlossError.__bases__, (ValueError,))

    def test_each_stands_straight_under_gloss_error(self):
        for name in NAMES:
            with self.subTest(name):
                self.assertEqual(getattr(errors, name).__bases__, (GlossError,))

    def test_none_stands_under_another_one(self):
        for name in NAMES:
            for other in NAMES:
                with self.subTest(name=name, other=other):
                    self.assertEqual(issubclass(getattr(errors, name), getattr(errors, other)), name == other)

    def test_each_has_its_own_name(self):
        for name in NAMES:
            self.assertEqual(getattr(errors, name).__name__, name)

    def test_each_is_raised_and_taken_as_itself_and_as_any_refusal(self):
        for name in NAMES:
            for taken_as in (getattr(errors, name), GlossError, ValueError):
                with self.subTest(name=name, taken_as=taken_as):
                    with self.assertRaises(taken_as) as caught:
                        raise made(name)
                    self.assertIs(type(caught.exception), getattr(errors, name))

    def test_none_is_taken_as_another_one(self):
        for name in NAMES:
            others = tuple(getattr(errors, other) for other in NAMES if other != name)
            with self.subTest(name):
                self.assertNotIsInstance(made(name), others)


class Values(unittest.TestCase):
    def test_no_row(self):
        for row in (0, 1, 299, 10 ** 59):
            self.assertEqual(NoRow(row).row, row)

    def test_in_ring(self):
        for ring in ((1,), (4, 2, 9)):
            self.assertEqual(InRing(ring).ring, ring)

    def test_caught(self):
        refusal = Caught(3, 14)
        self.assertEqual((refusal.thing, refusal.at), (3, 14))

    def test_both(self):
        refusal = Both(3, 14, (2, 7))
        self.assertEqual((refusal.thing, refusal.at, refusal.tellings), (3, 14, (2, 7)))

    def test_each_object_has_its_own_values(self):
        first = Caught(1, 2)
        second = Caught(3, 4)
        self.assertEqual((first.thing, first.at, second.thing, second.at), (1, 2, 3, 4))

    def test_values_are_there_behind_a_raise(self):
        with self.assertRaises(GlossError) as caught:
            raise Both(5, 0, (1, 2, 3))
        refusal = caught.exception
        self.assertEqual((refusal.thing, refusal.at, refusal.tellings), (5, 0, (1, 2, 3)))


if __name__ == "__main__":
    unittest.main()
