import itertools
import unittest

from gloss.scopes import SCOPES, strength

SIXTY_FIGURES = 10 ** 59
DEEP = (0, 4, 2, 9, 7, 1, 8, 3, 6)


def homes():
    """Homes of one to nine numbers, of small numbers and of great ones."""
    for many in range(1, 10):
        yield DEEP[:many]
        yield (0,) + tuple(SIXTY_FIGURES - n for n in DEEP[1:many])


def within(told):
    """Paths of parts within the part whose path is told, one and more steps deeper."""
    return [told + (21, 22, 23, 24, 25, 26, 27, 28)[:many] for many in range(1, 9)]


def around(told):
    return [told[:many] for many in range(1, len(told))]


def beside(told):
    """Paths of parts beside the part and beside each around it, and of parts within these."""
    found = []
    for many in range(1, len(told)):
        found += [told[:many] + (31,), told[:many] + (31, 32), told[:many] + (31, 32, 33, 34, 35, 36, 37, 38)]
    return found


class Strength(unittest.TestCase):
    def holds(self, due, scope, told, place):
        with self.subTest(scope=scope, told=told, place=place):
            answer = strength(scope, told, place)
            self.assertEqual(answer, due)
            self.assertIs(type(answer), int)

    def test_there_are_four_scopes(self):
        self.assertEqual(sorted(SCOPES), ["all", "else", "here", "part"])

    def test_else_governs_all(self):
        for told in homes():
            for place in [told, (0,)] + within(told) + around(told) + beside(told):
                self.holds(0, "else", told, place)

    def test_all_governs_all(self):
        for told in homes():
            for place in [told, (0,)] + within(told) + around(told) + beside(told):
                self.holds(1, "all", told, place)

    def test_part_governs_its_part_and_all_within(self):
        for told in homes():
            for place in [told] + within(told):
                self.holds(len(told) + 1, "part", told, place)

    def test_part_does_not_govern_what_is_around_or_beside(self):
        for told in homes():
            for place in around(told) + beside(told):
                self.holds(-1, "part", told, place)

    def test_here_governs_its_part_alone(self):
        for told in homes():
            self.holds(100, "here", told, told)
            for place in within(told) + around(told) + beside(told):
                self.holds(-1, "here", told, place)

    def test_told_straight_in_the_document(self):
        for place in ((0,), (0, 5), (0, 5, 2)):
            self.holds(2, "part", (0,), place)
        self.holds(100, "here", (0,), (0,))
        self.holds(-1, "here", (0,), (0, 5))

    def test_the_document_where_told_in_a_part(self):
        for told in homes():
            if len(told) > 1:
                self.holds(0, "else", told, (0,))
                self.holds(1, "all", told, (0,))
                self.holds(-1, "part", told, (0,))
                self.holds(-1, "here", told, (0,))

    def test_the_strengths_of_part_are_written_out(self):
        for many, due in zip(range(1, 10), (2, 3, 4, 5, 6, 7, 8, 9, 10)):
            self.holds(due, "part", DEEP[:many], DEEP)

    def test_one_told_in_a_nearer_part_is_stronger(self):
        strengths = [strength("part", DEEP[:many], DEEP) for many in range(1, 10)]
        self.assertEqual(strengths, sorted(set(strengths)))
        self.assertTrue(strength("else", DEEP, DEEP) < strength("all", DEEP, DEEP) < strengths[0])
        self.assertTrue(strengths[-1] < strength("here", DEEP, DEEP))

    def test_paths_that_end_in_the_same_places_but_are_unlike_on_the_way(self):
        told = (0, 4, 2, 9)
        for place in ((0, 4, 2, 8), (0, 4, 3, 9), (0, 5, 2, 9), (0, 5, 2, 9, 1), (0, 2, 4, 9), (0, 4, 9)):
            self.holds(-1, "part", told, place)
            self.holds(-1, "here", told, place)

    def test_all_short_paths(self):
        paths = [(0,) + inner for many in range(0, 4) for inner in itertools.permutations((1, 2, 3), many)]
        for told, place in itertools.product(paths, paths):
            inside = len(place) >= len(told) and all(one == other for one, other in zip(told, place))
            self.holds(0, "else", told, place)
            self.holds(1, "all", told, place)
            self.holds(len(told) + 1 if inside else -1, "part", told, place)
            self.holds(100 if told == place else -1, "here", told, place)

    def test_nothing_is_refused_for_a_home_somewhat_beyond_nine_numbers(self):
        told = DEEP + (11, 12)
        self.holds(12, "part", told, told)
        self.holds(100, "here", told, told)
        self.holds(-1, "part", told, DEEP)


if __name__ == "__main__":
    unittest.main()
