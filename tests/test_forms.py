import itertools
import unittest

from gloss.errors import GlossError, NoForm, NoWord
from gloss.forms import bent, forms

TWENTY = "abcdefghijKLMNOP6789"
FOUR = ("one", "two", "three", "day")


def due_form(phrase, bend):
    """What a bend makes of a phrase, reckoned sign by sign; None where it is refused."""
    signs = list(phrase[-1])
    for sign in reversed(bend[0]):
        if not signs or signs.pop() != sign:
            return None
    signs.extend(bend[1])
    if not 1 <= len(signs) <= 20:
        return None
    return tuple(list(phrase[:-1]) + ["".join(signs)])


class Refusals(unittest.TestCase):
    def refused(self, ask, *handed):
        with self.subTest(handed):
            with self.assertRaises(NoForm) as caught:
                ask(*handed)
            self.assertIsInstance(caught.exception, GlossError)
            self.assertNotIsInstance(caught.exception, NoWord)


class Bent(Refusals):
    def test_cut_without_signs(self):
        self.assertEqual(bent(("day",), ("", "s")), ("days",))
        self.assertEqual(bent(FOUR, ("", "s")), ("one", "two", "three", "days"))

    def test_cut_and_put_without_signs(self):
        self.assertEqual(bent(("day",), ("", "")), ("day",))
        self.assertEqual(bent(FOUR, ("", "")), FOUR)

    def test_put_without_signs(self):
        self.assertEqual(bent(("days",), ("s", "")), ("day",))

    def test_a_part_of_the_last_word(self):
        self.assertEqual(bent(("city",), ("y", "ies")), ("cities",))
        self.assertEqual(bent(("big", "city"), ("ty", "TY9")), ("big", "ciTY9"))

    def test_cut_that_is_all_of_the_last_word(self):
        self.assertEqual(bent(("day",), ("day", "date")), ("date",))
        self.assertEqual(bent(("closing", "day"), ("day", "date")), ("closing", "date"))
        self.assertEqual(bent(("day",), ("day", "day")), ("day",))
        self.assertEqual(bent((TWENTY,), (TWENTY, "x")), ("x",))

    def test_only_the_end_is_cut(self):
        self.assertEqual(bent(("anan",), ("an", "x")), ("anx",))
        self.assertEqual(bent(("sss",), ("s", "")), ("ss",))

    def test_cut_one_sign_unlike(self):
        for cut in ("x", "xy", "ax", "xay", "dxy", "dax", "Y", "Day", "daY", "da"):
            self.refused(bent, ("day",), (cut, "s"))

    def test_cut_one_sign_longer_than_the_word(self):
        for cut in ("aday", "dday", "daday", "dayy"):
            self.refused(bent, ("day",), (cut, "s"))
        self.refused(bent, (TWENTY,), ("x" + TWENTY, "s"))

    def test_cut_does_not_reach_into_the_word_ahead(self):
        self.refused(bent, ("closing", "day"), ("gday", "s"))
        self.refused(bent, ("closing", "day"), ("closing", "s"))

    def test_what_comes_has_no_signs(self):
        for word in ("s", "day", TWENTY):
            self.refused(bent, (word,), (word, ""))
            self.refused(bent, ("closing", word), (word, ""))

    def test_what_comes_has_one_sign(self):
        self.assertEqual(bent(("day",), ("ay", "")), ("d",))
        self.assertEqual(bent(("day",), ("day", "x")), ("x",))
        self.assertEqual(bent(("d",), ("", "")), ("d",))

    def test_what_comes_has_twenty_signs(self):
        self.assertEqual(bent(("a",), ("a", TWENTY)), (TWENTY,))
        self.assertEqual(bent((TWENTY[:19],), ("", "9")), (TWENTY,))
        self.assertEqual(bent((TWENTY,), ("9", "x")), (TWENTY[:19] + "x",))
        self.assertEqual(bent(FOUR, ("day", TWENTY)), ("one", "two", "three", TWENTY))

    def test_what_comes_has_twenty_one_signs(self):
        self.refused(bent, ("a",), ("", TWENTY))
        self.refused(bent, (TWENTY,), ("", "x"))
        self.refused(bent, (TWENTY,), ("9", "xy"))
        self.refused(bent, FOUR, ("ay", TWENTY))

    def test_the_other_words_stay(self):
        for many in range(0, 4):
            ahead = ("Day", "s", "days")[:many]
            with self.subTest(many):
                self.assertEqual(bent(ahead + ("days",), ("days", "x")), ahead + ("x",))

    def test_other_words_that_are_like_the_last_one_stay(self):
        self.assertEqual(bent(("day", "day", "day", "day"), ("y", "te")), ("day", "day", "day", "date"))

    def test_what_comes_is_a_tuple(self):
        for phrase in (("day",), ("closing", "day"), FOUR):
            self.assertIs(type(bent(phrase, ("y", "te"))), tuple)

    def test_nothing_is_refused_for_a_phrase_or_a_bend_beyond_its_bounds(self):
        self.assertEqual(bent(("a",) * 5, ("", "s")), ("a",) * 4 + ("as",))
        self.assertEqual(bent((TWENTY + "xy",), ("xy", "")), (TWENTY,))
        self.assertEqual(bent(("x" + TWENTY,), ("x" + TWENTY, "s")), ("s",))

    def test_all_short_words_and_bends(self):
        texts = ["".join(signs) for many in range(0, 4) for signs in itertools.product("ab", repeat=many)]
        for word, cut, put in itertools.product(texts[1:], texts, texts):
            for phrase in ((word,), ("ba", word)):
                due = due_form(phrase, (cut, put))
                if due is None:
                    self.refused(bent, phrase, (cut, put))
                else:
                    self.assertEqual(bent(phrase, (cut, put)), due)

    def test_all_lengths(self):
        for length, cut, put in itertools.product(range(1, 21), (0, 1, 10, 19, 20), range(0, 21)):
            handed = (("a" * length,), ("a" * cut, "a" * put))
            due = due_form(*handed)
            if due is None:
                self.refused(bent, *handed)
            else:
                self.assertEqual(bent(*handed), due)


class Forms(Refusals):
    def test_no_bends(self):
        for phrase in (("day",), ("closing", "day"), FOUR, (TWENTY,) * 4):
            self.assertEqual(forms(phrase, ()), (phrase,))

    def test_one_bend(self):
        self.assertEqual(forms(("day",), (("", "s"),)), (("day",), ("days",)))
        self.assertEqual(forms(FOUR, (("day", "x"),)), (FOUR, ("one", "two", "three", "x")))

    def test_two_bends(self):
        self.assertEqual(forms(("closing", "day"), (("", "s"), ("day", "date"))),
                         (("closing", "day"), ("closing", "days"), ("closing", "date")))

    def test_five_bends_in_every_order(self):
        bends = (("", "s"), ("y", "te"), ("day", "Day"), ("ay", ""), ("", TWENTY[:17]))
        last_words = ("days", "date", "Day", "d", "day" + TWENTY[:17])
        for order in itertools.permutations(range(5)):
            due = (("a", "day"),) + tuple(("a", last_words[place]) for place in order)
            self.assertEqual(forms(("a", "day"), tuple(bends[place] for place in order)), due)

    def test_each_bend_bends_the_phrase_and_not_the_form_ahead(self):
        self.assertEqual(forms(("a",), (("", "b"), ("", "c"), ("a", "d"))), (("a",), ("ab",), ("ac",), ("d",)))
        self.refused(forms, ("a",), (("", "b"), ("b", "c")))

    def test_they_are_tuples(self):
        answer = forms(("closing", "day"), (("", "s"), ("day", "date")))
        self.assertIs(type(answer), tuple)
        for form in answer:
            self.assertIs(type(form), tuple)

    def test_a_bend_that_does_not_fit_at_each_place(self):
        fitting = (("", "s"), ("y", "te"), ("day", "Day"), ("ay", ""))
        self.assertEqual(len(forms(("day",), fitting)), 5)
        for wrong in (("x", "s"), ("xday", "s"), ("day", ""), ("", TWENTY)):
            for place in range(0, 5):
                self.refused(forms, ("day",), fitting[:place] + (wrong,) + fitting[place:])
            self.refused(forms, ("day",), (wrong,))

    def test_a_form_like_the_phrase_itself(self):
        for bend in (("", ""), ("y", "y"), ("day", "day")):
            self.refused(forms, ("day",), (bend,))
            self.refused(forms, FOUR, (bend,))
            self.refused(forms, ("day",), (("", "s"), bend))
            self.refused(forms, ("day",), (bend, ("", "s")))
            self.refused(forms, ("day",), (("", "s"), bend, ("", "x")))

    def test_two_bent_forms_that_are_alike(self):
        same = (("", "s"), ("y", "ys"), ("ay", "ays"), ("day", "days"))
        for first, second in itertools.product(same, repeat=2):
            self.refused(forms, ("day",), (first, second))
            self.refused(forms, ("a", "day"), (first, ("", "x"), second))
            self.refused(forms, ("day",), (first, ("", "x"), ("", "z"), ("", "w"), second))
            self.refused(forms, ("day",), (("", "x"), ("", "z"), ("", "w"), first, second))

    def test_forms_that_are_unlike_in_case_alone(self):
        self.assertEqual(forms(("day",), (("day", "Day"), ("y", "Y"))), (("day",), ("Day",), ("daY",)))

    def test_nothing_is_refused_for_more_than_five_bends(self):
        bends = tuple(("", sign) for sign in "abcdefgh")
        self.assertEqual(forms(("x",), bends), (("x",),) + tuple(("x" + sign,) for sign in "abcdefgh"))

    def test_a_bend_may_stand_twice_in_no_row(self):
        self.refused(forms, ("day",), (("", "s"), ("", "s")))


class BehindARefusal(Refusals):
    def answers(self):
        return (bent(("closing", "day"), ("day", "date")), forms(("day",), (("", "s"), ("y", "te"))),
                forms(("day",), ()))

    def test_the_same_questions_are_answered_as_ahead_of_it(self):
        ahead = self.answers()
        for again in range(2):
            self.refused(bent, ("closing", "day"), ("x", "date"))
            self.assertEqual(self.answers(), ahead)
            self.refused(bent, ("closing", "day"), ("day", ""))
            self.assertEqual(self.answers(), ahead)
            self.refused(forms, ("day",), (("", "s"), ("y", "te"), ("", "")))
            self.assertEqual(self.answers(), ahead)
            self.refused(forms, ("day",), (("", "s"), ("x", "te")))
            self.assertEqual(self.answers(), ahead)


if __name__ == "__main__":
    unittest.main()
