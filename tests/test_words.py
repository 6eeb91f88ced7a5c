import unittest

from gloss.errors import GlossError, NoForm, NoWord
from gloss.words import is_word, text_of, words_of

LOWER = "abcdefghijklmnopqrstuvwxyz"
UPPER = "ABCDEFGHIJKLMNOPQRSTUVWXYZ"
FIGURES = "0123456789"
GOOD = LOWER + UPPER + FIGURES
# The percent sign is left out, since nothing is promised of it.
OTHERS = [chr(code) for code in range(32, 127) if chr(code) not in GOOD + "%"] + ["\n"]
TWENTY = "abcdefghijKLMNOP6789"


class IsWord(unittest.TestCase):
    def test_the_signs_in_use_here_are_all_there_are(self):
        self.assertEqual((len(GOOD), len(OTHERS), len(TWENTY)), (62, 33, 20))

    def test_each_sign_that_words_have(self):
        for sign in GOOD:
            for text in (sign, sign + "bc", "b" + sign + "c", "bc" + sign, sign * 20):
                with self.subTest(text):
                    self.assertIs(is_word(text), True)

    def test_each_other_sign_at_each_place(self):
        for sign in OTHERS:
            for text in (sign, sign + "bc", "b" + sign + "c", "bc" + sign, sign + TWENTY[1:], TWENTY[1:] + sign,
                         TWENTY[:9] + sign + TWENTY[10:]):
                with self.subTest(text):
                    self.assertIs(is_word(text), False)

    def test_letters_and_figures_of_other_scripts(self):
        for sign in "\u00e4\u00df\u0416\u03b1\u0661\u00b2\uff41\uff11":
            for text in (sign, "b" + sign, sign + "b"):
                with self.subTest(text):
                    self.assertIs(is_word(text), False)

    def test_every_length(self):
        for length in range(0, 45):
            for sign in "aZ0":
                with self.subTest(length=length, sign=sign):
                    self.assertIs(is_word(sign * length), 1 <= length <= 20)

    def test_edges_of_length(self):
        self.assertIs(is_word(""), False)
        self.assertIs(is_word("a"), True)
        self.assertIs(is_word(TWENTY), True)
        self.assertIs(is_word(TWENTY + "x"), False)
        self.assertIs(is_word("a" * 100000), False)

    def test_a_word_may_be_figures_alone(self):
        self.assertIs(is_word("0"), True)
        self.assertIs(is_word("2026"), True)

    def test_things_that_are_no_texts(self):
        for thing in (0, 1, -1, 7, 10 ** 59, True, False, None, [], ["a"], ["day"], (), ("a",), ("day",), {},
                      {"a": 1}, {"day": "day"}, b"day", 1.5, object(), str, {"a"}, is_word):
            with self.subTest(repr(thing)):
                self.assertIs(is_word(thing), False)

    def test_nothing_that_is_handed_in_is_changed(self):
        row = ["a", ["b"]]
        names = {"a": ["b"]}
        is_word(row)
        is_word(names)
        self.assertEqual((row, names), (["a", ["b"]], {"a": ["b"]}))


class WordsOf(unittest.TestCase):
    def refused(self, text):
        with self.subTest(text):
            with self.assertRaises(NoWord) as caught:
                words_of(text)
            self.assertIsInstance(caught.exception, GlossError)
            self.assertNotIsInstance(caught.exception, NoForm)

    def test_one_word(self):
        for word in ("a", "Z", "0", "day", TWENTY):
            self.assertEqual(words_of(word), (word,))

    def test_many_words(self):
        self.assertEqual(words_of("a b"), ("a", "b"))
        self.assertEqual(words_of("the last day of the term"), ("the", "last", "day", "of", "the", "term"))

    def test_order_and_repeated_words_stay(self):
        self.assertEqual(words_of("b a b Day day"), ("b", "a", "b", "Day", "day"))

    def test_any_number_of_words(self):
        for many in (4, 5, 200, 201, 300, 40000):
            self.assertEqual(words_of(" ".join(["a"] * many)), ("a",) * many)

    def test_words_of_twenty_signs(self):
        self.assertEqual(words_of(" ".join([TWENTY] * 3)), (TWENTY,) * 3)

    def test_it_is_a_tuple(self):
        for text in ("a", "a b", "a b c"):
            self.assertIs(type(words_of(text)), tuple)

    def test_no_signs(self):
        self.refused("")

    def test_blanks_alone(self):
        for text in (" ", "  ", "   "):
            self.refused(text)

    def test_blanks_side_by_side(self):
        for text in ("a  b", "a b  c", "a  b c", "a   b"):
            self.refused(text)

    def test_a_blank_at_an_end(self):
        for text in (" a", "a ", " a ", " a b", "a b ", "  a", "a  "):
            self.refused(text)

    def test_a_piece_that_is_too_long(self):
        long = TWENTY + "x"
        for text in (long, long + " a", "a " + long, "a " + long + " b"):
            self.refused(text)

    def test_a_piece_with_another_sign(self):
        for sign in OTHERS:
            if sign == " ":
                continue
            for text in (sign, "x" + sign + "y", "x" + sign + " b", "a " + sign + "x", "a x" + sign + "y b",
                         "a " + sign + " b"):
                self.refused(text)

    def test_only_the_blank_parts_words(self):
        for text in ("a\nb", "a b\n", "\na b", "a\tb", "a\u00a0b", "a,b"):
            self.refused(text)


class TextOf(unittest.TestCase):
    def test_texts(self):
        self.assertEqual(text_of(("a",)), "a")
        self.assertEqual(text_of(("a", "b")), "a b")
        self.assertEqual(text_of(("the", "last", "Day")), "the last Day")
        self.assertEqual(text_of((TWENTY, TWENTY)), TWENTY + " " + TWENTY)

    def test_words_written_and_read_are_the_same_again(self):
        rows = [("a",), ("a", "a"), ("Day", "day", "0"), (TWENTY,), (TWENTY,) * 4, tuple(GOOD), tuple(GOOD) * 5]
        rows += [(first, second) for first in ("a", "Z9", TWENTY) for second in ("0", "day", TWENTY)]
        for words in rows:
            with self.subTest(words):
                self.assertEqual(words_of(text_of(words)), words)

    def test_texts_read_and_written_are_the_same_again(self):
        for text in ("a", "a b", "the last day of the term", TWENTY + " a"):
            self.assertEqual(text_of(words_of(text)), text)


class BehindARefusal(unittest.TestCase):
    def answers(self):
        return (words_of("the last day"), text_of(("the", "last", "day")), is_word("day"), is_word("to-day"))

    def test_the_same_questions_are_answered_as_ahead_of_it(self):
        ahead = self.answers()
        for text in ("", " ", "a  b", "the last day ", "the l-st day", TWENTY + "x"):
            for again in range(2):
                with self.assertRaises(NoWord):
                    words_of(text)
                self.assertEqual(self.answers(), ahead)


if __name__ == "__main__":
    unittest.main()
