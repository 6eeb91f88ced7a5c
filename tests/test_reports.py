import copy
import unittest

import samples
from samples import EMPTY, SIXTY_FIGURES, WIDE, Refusals, chain, document, part, row, say, tell
from gloss.errors import NoThing
from gloss.marks import told_in
from gloss.reports import clashes, unused, untold


def all_samples():
    return list(samples.documents()) + samples.all_documents(4) + samples.drawn_documents(400)


def due_unused(doc):
    winners = {winner for mark in samples.due_marks(doc) for winner in mark[3]}
    return sorted({token[1] for token in samples.tokens(doc) if token[0] == "tell"} - winners)


def due_untold(doc):
    marked = {(number, start + more) for number, start, length, winners in samples.due_marks(doc)
              for more in range(length)}
    return [(number, at) for number, words, into in samples.due_rows(doc) for at in range(len(words))
            if words[at][0] in "ABCDEFGHIJKLMNOPQRSTUVWXYZ" and (number, at) not in marked]


class Unused(unittest.TestCase):
    def test_no_tellings(self):
        for doc in (EMPTY, document(say(1), part(2))):
            self.assertEqual(unused(doc), [])

    def test_used_in_a_say_row_and_in_a_meaning(self):
        doc = document(tell(3, "all", row("a"), (), row("x b")), tell(2, "all", row("b"), (), row("y")),
                       tell(1, "all", row("c"), (), row("z")), say(4, *row("a x")))
        self.assertEqual(unused(doc), [1])

    def test_used_in_its_own_meaning_alone(self):
        self.assertEqual(unused(document(tell(1, "all", row("a"), (), row("a")))), [])

    def test_the_phrase_of_another_telling_is_no_use(self):
        doc = document(tell(1, "all", row("a b"), (), row("x")), tell(2, "all", row("a"), (), row("x")))
        self.assertEqual(unused(doc), [1, 2])

    def test_used_by_a_form_alone(self):
        doc = document(tell(1, "all", row("a"), (("", "s"), ("", "es")), row("x")), say(2, "aes"))
        self.assertEqual(unused(doc), [])

    def test_a_winner_of_a_clash_is_used(self):
        doc = document(tell(1, "all", row("a"), (), row("x")), tell(2, "all", row("a"), (), row("x")), say(3, "a"))
        self.assertEqual(unused(doc), [])

    def test_a_weaker_one_is_not_used(self):
        doc = document(tell(1, "else", row("a"), (), row("x")), tell(2, "all", row("a"), (), row("x")), say(3, "a"))
        self.assertEqual(unused(doc), [1])

    def test_one_that_is_used_in_another_part_alone(self):
        doc = document(part(1, tell(2, "here", row("a"), (), row("x"))), say(3, "a"),
                       part(4, tell(5, "all", row("a"), (), row("x"))))
        self.assertEqual(unused(doc), [2])

    def test_a_shorter_one_within_a_longer_one_is_not_used(self):
        doc = document(tell(1, "all", row("a b"), (), row("x")), tell(2, "all", row("b"), (), row("x")),
                       say(3, *row("a b")))
        self.assertEqual(unused(doc), [2])

    def test_rising(self):
        for numbers in ((4, 1, 9), (SIXTY_FIGURES, 12, 2), (1, 2, 3), (30, 20, 10)):
            doc = document(*[tell(number, "here", (f"w{number % 7}",), (), row("x")) for number in numbers])
            self.assertEqual(unused(doc), sorted(numbers))

    def test_many_documents(self):
        for doc in all_samples():
            self.assertEqual(unused(doc), due_unused(doc), doc)


class Untold(unittest.TestCase):
    def test_no_words(self):
        self.assertEqual(untold(EMPTY), [])
        self.assertEqual(untold(document(part(1))), [])

    def test_words_that_begin_with_a_great_letter(self):
        self.assertEqual(untold(document(say(1, *row("Day day dAY A z Z 1A aZ Z9")))), [(1, 0), (1, 3), (1, 5), (1, 8)])

    def test_each_sign_that_a_word_may_begin_with(self):
        great = "ABCDEFGHIJKLMNOPQRSTUVWXYZ"
        self.assertEqual(untold(document(say(1, *great))), [(1, at) for at in range(26)])
        self.assertEqual(untold(document(say(1, *(great.lower() + "0123456789")))), [])
        self.assertEqual(untold(document(say(1, *[sign + "x" for sign in great]))), [(1, at) for at in range(26)])
        self.assertEqual(untold(document(say(1, *["x" + sign for sign in great]))), [])

    def test_in_a_say_row_and_in_a_meaning(self):
        doc = document(say(2, *row("a B")), tell(1, "all", row("C d"), (("", "s"),), row("E f G")))
        self.assertEqual(untold(doc), [(2, 1), (1, 0), (1, 2)])

    def test_each_word_of_a_mark(self):
        doc = document(tell(1, "all", row("A B C"), (), row("x")), say(2, *row("A B C A B C C")),
                       say(3, *row("A B A B C")))
        self.assertEqual(untold(doc), [(2, 6), (3, 0), (3, 1)])

    def test_a_clash_is_a_mark(self):
        doc = document(tell(1, "all", row("A"), (), row("x")), tell(2, "all", row("A"), (), row("A B")), say(3, "A"))
        self.assertEqual(untold(doc), [(2, 1)])

    def test_where_the_telling_does_not_govern(self):
        doc = document(say(4, "A"), part(1, tell(2, "here", row("A"), (), row("x")), say(3, "A"), part(5, say(6, "A"))))
        self.assertEqual(untold(doc), [(4, 0), (6, 0)])

    def test_a_mark_of_another_row_at_the_same_place(self):
        doc = document(say(1, *row("A B")), part(2, tell(3, "here", row("A B"), (), row("x")), say(4, *row("A B"))),
                       say(5, *row("A B")))
        self.assertEqual(untold(doc), [(1, 0), (1, 1), (5, 0), (5, 1)])

    def test_the_order_of_things_then_of_words(self):
        doc = document(say(9, *row("A b C")), part(3, say(7, "D"), part(5, say(1, *row("E F")))), say(2, "G"))
        self.assertEqual(untold(doc), [(9, 0), (9, 2), (7, 0), (1, 0), (1, 1), (2, 0)])

    def test_many_documents(self):
        for doc in all_samples():
            self.assertEqual(untold(doc), due_untold(doc), doc)

    def test_kinds(self):
        found = untold(document(say(1, *row("A B"))))
        self.assertEqual([type(pair) for pair in found], [tuple, tuple])


class Clashes(unittest.TestCase):
    def test_none(self):
        for doc in (EMPTY, document(say(1)), document(tell(1, "all", row("a"), (), row("a")), say(2, *row("a a")))):
            self.assertEqual(clashes(doc), [])

    def test_two_and_more_winners(self):
        doc = document(tell(5, "all", row("a"), (), row("x")), tell(3, "all", row("a"), (("", "s"),), row("b a")),
                       tell(4, "all", row("b"), (("b", "a"),), row("y")), say(1, *row("b a as a")))
        self.assertEqual(clashes(doc), [(3, 1, 1, (3, 4, 5)), (1, 1, 1, (3, 4, 5)), (1, 3, 1, (3, 4, 5))])

    def test_of_two_winners(self):
        doc = document(tell(2, "here", row("a b"), (), row("x")), tell(1, "here", row("a b"), (), row("x")),
                       say(3, *row("c a b")))
        self.assertEqual(clashes(doc), [(3, 1, 2, (1, 2))])

    def test_tellings_of_unlike_strengths_do_not_clash(self):
        doc = document(tell(1, "else", row("a"), (), row("x")), tell(2, "all", row("a"), (), row("x")),
                       tell(3, "part", row("a"), (), row("x")), say(4, "a"))
        self.assertEqual(clashes(doc), [])

    def test_in_one_part_alone(self):
        doc = document(tell(1, "all", row("a"), (), row("x")), tell(2, "all", row("a"), (), row("x")), say(3, "a"),
                       part(4, tell(5, "here", row("a"), (), row("a")), say(6, "a"), part(7, say(8, "a"))))
        self.assertEqual(clashes(doc), [(3, 0, 1, (1, 2)), (8, 0, 1, (1, 2))])

    def test_clashes_that_stand_nowhere_are_none(self):
        doc = document(tell(1, "all", row("a"), (), row("x")), tell(2, "all", row("a"), (), row("x")), say(3, "b"))
        self.assertEqual(clashes(doc), [])

    def test_many_documents(self):
        for doc in all_samples():
            self.assertEqual(clashes(doc), [mark for mark in samples.due_marks(doc) if len(mark[3]) >= 2], doc)


class AskersOwn(Refusals):
    def documents(self):
        clashing = document(tell(1, "all", row("a"), (), row("B a")), tell(2, "all", row("a")),
                            tell(3, "here", row("c"), ()))
        return [EMPTY, clashing, WIDE, chain(3)]

    def test_the_lists(self):
        for doc in self.documents():
            kept = copy.deepcopy(doc)
            for ask in (unused, untold, clashes):
                due = list(ask(doc))
                first = ask(doc)
                self.assertIs(type(first), list)
                first.append("more")
                second = ask(doc)
                self.assertEqual(second, due)
                second.clear()
                self.assertEqual(ask(doc), due)
                self.assertEqual(first, due + ["more"])
            self.assertEqual(doc, kept)

    def test_behind_a_refusal(self):
        for doc in self.documents():
            ahead = [ask(doc) for ask in (unused, untold, clashes)]
            self.refused(NoThing, told_in, doc, 1000)
            self.assertEqual([ask(doc) for ask in (unused, untold, clashes)], ahead)


if __name__ == "__main__":
    unittest.main()
