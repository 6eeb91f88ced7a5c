import copy
import itertools
import unittest

import samples
from samples import EMPTY, SIXTY_FIGURES, WIDE, Refusals, chain, document, part, row, say, tell
from gloss.errors import NoThing
from gloss.marks import marks, marks_of, told_in

SCOPES = ("all", "part", "here", "else")
DAY = row("day")


def told_day(number, scope):
    return tell(number, scope, DAY, ())


def at_places(things):
    """Parts 51 to 54 within one another and beside, with each thing (place, thing) put in at its place."""
    def at(place):
        return [thing for other, thing in things if other == place]
    return document(*at(0), part(51, *at(51), part(52, *at(52), part(53, *at(53)))), part(54, *at(54)))


PLACES = (0, 51, 52, 53, 54)


class ToldIn(Refusals):
    def tells(self, doc, due):
        """Due is a dict of parts' numbers and what is told there of the one word day."""
        for n, winners in due.items():
            self.assertEqual(told_in(doc, n), {DAY: winners} if winners else {}, n)

    def test_nothing_is_told(self):
        for doc in (EMPTY, document(say(1))):
            self.assertEqual(told_in(doc, 0), {})
        self.assertEqual(told_in(document(part(3), say(1)), 3), {})

    def test_the_forms_are_told(self):
        doc = document(tell(1, "all", row("closing day"), (("", "s"), ("day", "date"))), part(2))
        due = {row("closing day"): (1,), row("closing days"): (1,), row("closing date"): (1,)}
        self.assertEqual(told_in(doc, 0), due)
        self.assertEqual(told_in(doc, 2), due)

    def test_each_scope_told_in_a_part(self):
        for scope, due in (("all", {0: (7,), 51: (7,), 52: (7,), 53: (7,), 54: (7,)}),
                           ("else", {0: (7,), 51: (7,), 52: (7,), 53: (7,), 54: (7,)}),
                           ("part", {0: (), 51: (), 52: (7,), 53: (7,), 54: ()}),
                           ("here", {0: (), 51: (), 52: (7,), 53: (), 54: ()})):
            self.tells(at_places([(52, told_day(7, scope))]), due)

    def test_each_scope_told_in_the_document(self):
        for scope in ("all", "else", "part"):
            self.tells(at_places([(0, told_day(7, scope))]), {n: (7,) for n in PLACES})
        self.tells(at_places([(0, told_day(7, "here"))]), {0: (7,), 51: (), 52: (), 53: (), 54: ()})

    def test_the_nearer_one_is_stronger(self):
        doc = at_places([(place, told_day(number, "part")) for place, number in ((0, 4), (51, 3), (52, 2), (53, 1))])
        self.tells(doc, {0: (4,), 51: (3,), 52: (2,), 53: (1,), 54: (4,)})

    def test_here_is_stronger_than_part_and_part_than_all_and_all_than_else(self):
        told = ((1, "else"), (2, "all"), (3, "part"), (4, "here"))
        things = [(51, told_day(number, scope)) for number, scope in told]
        for order in itertools.permutations(things):
            self.tells(at_places(list(order)), {0: (2,), 51: (4,), 52: (3,), 53: (3,), 54: (2,)})
            less = [pair for pair in order if pair[1][2] != "all"]
            self.tells(at_places(less), {0: (1,), 51: (4,), 52: (3,), 53: (3,), 54: (1,)})
            weak = [pair for pair in order if pair[1][2] in ("all", "else")]
            self.tells(at_places(weak), {n: (2,) for n in PLACES})

    def test_here_in_the_outer_part_does_not_reach_the_inner_one(self):
        doc = at_places([(51, told_day(1, "here")), (0, told_day(2, "part")), (53, told_day(3, "all"))])
        self.tells(doc, {0: (2,), 51: (1,), 52: (2,), 53: (2,), 54: (2,)})

    def test_at_the_greatest_depths_here_is_the_stronger_one(self):
        for depth in range(1, 11):
            doc = ("part", depth, (told_day(21, "part"), told_day(22, "here")))
            for number in reversed(range(depth)):
                doc = ("part", number, (told_day(30 + number, "part"), doc))
            self.assertEqual(told_in(doc, depth), {DAY: (22,)})
            self.assertEqual(told_in(doc, depth - 1), {DAY: (30 + depth - 1,)})

    def test_winners_of_one_strength_rise(self):
        for numbers in itertools.permutations((1, 7, 30, SIXTY_FIGURES)):
            for scope in SCOPES:
                doc = document(*[told_day(number, scope) for number in numbers])
                self.assertEqual(told_in(doc, 0), {DAY: (1, 7, 30, SIXTY_FIGURES)})

    def test_winners_of_all_and_else_told_in_several_parts(self):
        for scope in ("all", "else"):
            doc = at_places([(0, told_day(9, scope)), (53, told_day(1, scope)), (54, told_day(5, scope))])
            self.tells(doc, {n: (1, 5, 9) for n in PLACES})

    def test_a_stronger_one_behind_and_ahead_of_two_weaker_ones(self):
        for order in itertools.permutations((told_day(1, "all"), told_day(2, "here"), told_day(3, "all"))):
            self.assertEqual(told_in(document(*order), 0), {DAY: (2,)})

    def test_of_the_weaker_one_the_other_forms_stay(self):
        doc = document(tell(1, "all", DAY, (("", "s"), ("", "time"))), tell(2, "part", row("days"), (("s", "time"),)))
        self.assertEqual(told_in(doc, 0), {DAY: (1,), row("days"): (2,), row("daytime"): (2,)})

    def test_a_form_of_one_that_is_the_phrase_of_another(self):
        doc = document(tell(4, "all", DAY, (("", "s"),)), tell(2, "all", row("days"), ()))
        self.assertEqual(told_in(doc, 0), {DAY: (4,), row("days"): (2, 4)})

    def test_phrases_that_begin_alike_are_apart(self):
        doc = document(tell(1, "all", row("a b"), ()), tell(2, "here", row("a"), ()), tell(3, "all", row("A b"), ()))
        self.assertEqual(told_in(doc, 0), {row("a b"): (1,), row("a"): (2,), row("A b"): (3,)})

    def test_two_tellings_at_all_places_with_all_scopes(self):
        ways = list(itertools.product(PLACES, SCOPES))
        for (place, scope), (other, other_scope) in itertools.product(ways, ways):
            doc = at_places([(place, told_day(2, scope)), (other, tell(1, other_scope, row("days"), (("s", ""),)))])
            for n in PLACES:
                self.assertEqual(told_in(doc, n), samples.due_told(doc, n), (doc, n))

    def test_many_documents(self):
        for doc in list(samples.documents()) + samples.all_documents(4) + samples.drawn_documents(300):
            for n in samples.parts_with_paths(doc):
                self.assertEqual(told_in(doc, n), samples.due_told(doc, n), (doc, n))

    def test_refused(self):
        for doc in list(samples.documents()) + samples.all_documents(3) + samples.drawn_documents(50):
            parts = samples.parts_with_paths(doc)
            for n in [n for n in samples.numbers_of(doc) if n not in parts] + samples.unknown_numbers(doc):
                self.refused(NoThing, told_in, doc, n)

    def test_kinds(self):
        for doc in (WIDE, chain(8)):
            for n in samples.parts_with_paths(doc):
                told = told_in(doc, n)
                self.assertIs(type(told), dict)
                self.assertTrue(told)
                for phrase, winners in told.items():
                    self.assertEqual((type(phrase), type(winners)), (tuple, tuple))
                    self.assertEqual({type(number) for number in winners}, {int})

    def test_the_dict_is_the_askers_own(self):
        doc = at_places([(0, told_day(1, "all")), (52, told_day(2, "here"))])
        for n, due in ((0, {DAY: (1,)}), (52, {DAY: (2,)}), (54, {DAY: (1,)})):
            first = told_in(doc, n)
            first[DAY] = (99,)
            first[row("more")] = (1,)
            second = told_in(doc, n)
            self.assertEqual(second, due)
            second.clear()
            self.assertEqual(told_in(doc, n), due)
            self.assertEqual(first, {DAY: (99,), row("more"): (1,)})


class MarksOf(unittest.TestCase):
    def marked(self, told, words, due):
        kept = copy.deepcopy(told)
        found = marks_of(told, words)
        self.assertEqual(found, due, (told, words))
        self.assertEqual(told, kept)
        self.assertEqual(list(told), list(kept))

    def test_no_words(self):
        self.marked({}, (), [])
        self.marked({row("a"): (1,)}, (), [])

    def test_no_phrases(self):
        self.marked({}, row("a b c"), [])

    def test_one_word(self):
        told = {row("b"): (4,)}
        self.marked(told, row("a b c"), [(1, 1, (4,))])
        self.marked(told, row("b a b b"), [(0, 1, (4,)), (2, 1, (4,)), (3, 1, (4,))])
        self.marked(told, row("a c B bb"), [])

    def test_the_longest_is_marked(self):
        told = {row("a"): (1,), row("a b"): (2,), row("a b c"): (3,), row("a b c d e"): (5,)}
        self.marked(told, row("a b c d e"), [(0, 5, (5,))])
        self.marked(told, row("a b c d a b a"), [(0, 3, (3,)), (4, 2, (2,)), (6, 1, (1,))])

    def test_the_left_one_is_marked_also_where_a_longer_one_begins_within_it(self):
        told = {row("a b"): (1,), row("b c d"): (2,)}
        self.marked(told, row("a b c d"), [(0, 2, (1,))])
        self.marked(told, row("b c d"), [(0, 3, (2,))])
        self.marked(told, row("a a b c d b c d"), [(1, 2, (1,)), (5, 3, (2,))])

    def test_no_two_marks_share_a_word(self):
        self.marked({row("a a"): (1,)}, row("a a a a a"), [(0, 2, (1,)), (2, 2, (1,))])
        self.marked({row("a b a"): (1,)}, row("a b a b a b a"), [(0, 3, (1,)), (4, 3, (1,))])

    def test_what_stands_behind_a_mark_begins_at_its_next_word(self):
        told = {row("a b"): (1,), row("c"): (2,)}
        self.marked(told, row("a b c a b a b"), [(0, 2, (1,)), (2, 1, (2,)), (3, 2, (1,)), (5, 2, (1,))])

    def test_a_beginning_that_does_not_stand_whole(self):
        told = {row("a b c"): (1,), row("b"): (2,)}
        self.marked(told, row("a b d"), [(1, 1, (2,))])
        self.marked(told, row("a b"), [(1, 1, (2,))])
        self.marked(told, row("a a b c"), [(1, 3, (1,))])

    def test_marks_at_the_ends_of_the_row(self):
        told = {row("a b"): (1,)}
        self.marked(told, row("a b c a b"), [(0, 2, (1,)), (3, 2, (1,))])
        self.marked(told, row("b c a"), [])

    def test_the_winners_are_as_they_were_handed_in(self):
        told = {row("a"): (3, 5, SIXTY_FIGURES), row("b"): (2,), row("c"): ()}
        self.marked(told, row("b a c"), [(0, 1, (2,)), (1, 1, (3, 5, SIXTY_FIGURES)), (2, 1, ())])

    def test_phrases_of_many_words(self):
        long = ("a",) * 60
        self.marked({long: (1,), ("a",) * 7: (2,)}, ("a",) * 200,
                    [(0, 60, (1,)), (60, 60, (1,)), (120, 60, (1,)), (180, 7, (2,)), (187, 7, (2,))])

    def test_all_short_rows(self):
        phrases = [phrase for many in (1, 2, 3) for phrase in itertools.product("ab", repeat=many)]
        rows = [words for many in range(6) for words in itertools.product("ab", repeat=many)]
        for many in (0, 1, 2, 3):
            for chosen in list(itertools.combinations(phrases, many))[::1 if many < 3 else 5]:
                told = {phrase: (place + 1,) for place, phrase in enumerate(chosen)}
                for words in rows:
                    self.assertEqual(marks_of(told, words), samples.due_marks_of(told, words), (told, words))

    def test_the_list_is_the_askers_own(self):
        told = {row("a"): (1, 2)}
        for words, due in ((row("b a"), [(1, 1, (1, 2))]), ((), []), (row("b"), [])):
            first = marks_of(told, words)
            self.assertIs(type(first), list)
            first.append((7, 7, (7,)))
            second = marks_of(told, words)
            self.assertEqual(second, due)
            second.clear()
            self.assertEqual(marks_of(told, words), due)
            self.assertEqual(first, due + [(7, 7, (7,))])

    def test_what_was_told_stays_when_the_dict_is_changed_later(self):
        told = {row("a"): (1,)}
        first = marks_of(told, row("a b"))
        told[row("a")] = (2,)
        told[row("a b")] = (3,)
        self.assertEqual(first, [(0, 1, (1,))])
        self.assertEqual(marks_of(told, row("a b")), [(0, 2, (3,))])


class Marks(unittest.TestCase):
    def test_no_things_and_no_tellings(self):
        for doc in (EMPTY, document(say(1)), document(part(1, say(2)))):
            self.assertEqual(marks(doc), [])

    def test_no_words_that_are_told(self):
        self.assertEqual(marks(document(say(1, "a"), tell(2, "all", DAY, (), row("b c")))), [])

    def test_a_say_row(self):
        doc = document(say(1, *row("on the closing day or closing days")), tell(2, "all", row("closing day")))
        self.assertEqual(marks(doc), [(1, 2, 2, (2,)), (1, 5, 2, (2,))])

    def test_a_meaning(self):
        doc = document(tell(1, "all", row("term"), (), row("from day to day")), tell(2, "all", DAY, (), row("a b")))
        self.assertEqual(marks(doc), [(1, 1, 1, (2,)), (1, 3, 1, (2,))])

    def test_a_telling_in_its_own_meaning(self):
        doc = document(tell(4, "here", DAY, (("", "s"),), row("days and a day")))
        self.assertEqual(marks(doc), [(4, 0, 1, (4,)), (4, 3, 1, (4,))])

    def test_the_phrase_is_not_marked(self):
        doc = document(tell(1, "all", row("closing day"), (), row("end")), tell(2, "all", DAY, (), row("hours")))
        self.assertEqual(marks(doc), [])

    def test_the_order_of_things(self):
        inner = part(8, tell(7, "all", DAY, (), row("a day")), part(6, say(5, "day")), say(4, "day"))
        doc = document(say(9, "day"), inner, say(3, *row("no day a day")))
        self.assertEqual(marks(doc), [(9, 0, 1, (7,)), (7, 1, 1, (7,)), (5, 0, 1, (7,)), (4, 0, 1, (7,)),
                                      (3, 1, 1, (7,)), (3, 3, 1, (7,))])

    def test_by_the_part_in_which_the_row_stands_straight(self):
        doc = document(
            tell(1, "all", DAY, (), row("day")), say(2, "day"),
            part(3, say(4, "day"), tell(5, "here", DAY, (), row("day")), part(6, say(7, "day")), say(8, "day")),
            part(9, tell(10, "part", DAY, (), row("day")), part(11, say(12, "day"))), say(13, "day"))
        due = [(1, 1), (2, 1), (4, 5), (5, 5), (7, 1), (8, 5), (10, 10), (12, 10), (13, 1)]
        self.assertEqual(marks(doc), [(number, 0, 1, (winner,)) for number, winner in due])

    def test_the_same_words_in_two_parts(self):
        doc = document(part(1, say(2, *row("a b")), tell(3, "part", row("a b"), (), row("c"))),
                       part(4, say(5, *row("a b")), tell(6, "here", row("b"), (), row("c"))))
        self.assertEqual(marks(doc), [(2, 0, 2, (3,)), (5, 1, 1, (6,))])

    def test_clashes(self):
        doc = document(tell(5, "all", DAY, (), row("a day")), tell(3, "all", row("days"), (("s", ""),), row("b")),
                       say(1, *row("days of a day")))
        self.assertEqual(marks(doc), [(5, 1, 1, (3, 5)), (1, 0, 1, (3,)), (1, 3, 1, (3, 5))])

    def test_a_longer_weaker_phrase_is_marked_ahead_of_a_shorter_stronger_one(self):
        doc = document(tell(1, "else", row("closing day"), (), row("end")),
                       tell(2, "here", row("closing"), (), row("b")), say(3, *row("closing day closing")))
        self.assertEqual(marks(doc), [(3, 0, 2, (1,)), (3, 2, 1, (2,))])

    def test_a_phrase_that_is_not_told_there_hides_none(self):
        doc = document(tell(1, "all", row("a"), (), row("c")), part(2, tell(3, "part", row("a b"), (), row("c"))),
                       say(4, *row("a b")), part(5, say(6, *row("a b"))))
        self.assertEqual(marks(doc), [(4, 0, 1, (1,)), (6, 0, 1, (1,))])

    def test_many_documents(self):
        for doc in list(samples.documents()) + samples.all_documents(4) + samples.drawn_documents(400):
            self.assertEqual(marks(doc), samples.due_marks(doc), doc)

    def test_a_document_of_many_things(self):
        parts = []
        for k in range(100):
            told = tell(3 * k + 2, SCOPES[k // 3 % 4], (f"w{k % 7}", "a"), (("", "s"),), row("w1 w2 a as"))
            parts.append(part(3 * k + 1, told, say(3 * k + 3, *[f"w{k % 5}", "a", "as", "w6", "as"] * 40)))
        doc = document(*parts)
        # Not assertEqual: it would take minutes to tell where so long lists differ.
        self.assertTrue(marks(doc) == samples.due_marks(doc))

    def test_kinds(self):
        for doc in (WIDE, chain(3)):
            found = marks(doc)
            self.assertIs(type(found), list)
            self.assertTrue(found)
            for mark in found:
                self.assertIs(type(mark), tuple)
                self.assertEqual([type(value) for value in mark], [int, int, int, tuple])

    def test_the_list_is_the_askers_own(self):
        for doc in (EMPTY, WIDE, document(say(1, "day"), told_day(2, "all"))):
            due = samples.due_marks(doc)
            first = marks(doc)
            first.append((7, 7, 7, (7,)))
            second = marks(doc)
            self.assertEqual(second, due)
            second.clear()
            self.assertEqual(marks(doc), due)
            self.assertEqual(first, due + [(7, 7, 7, (7,))])

    def test_the_document_stays(self):
        for doc in (EMPTY, WIDE, chain(8)):
            kept = copy.deepcopy(doc)
            marks(doc)
            told_in(doc, 0)
            self.assertEqual(doc, kept)


class BehindARefusal(Refusals):
    def test_the_same_questions_are_answered_as_ahead_of_it(self):
        doc = at_places([(0, told_day(1, "all")), (52, told_day(2, "here")), (52, say(3, "day"))])
        for asked in range(2):
            self.refused(NoThing, told_in, doc, 3)
            self.refused(NoThing, told_in, doc, 55)
            self.assertEqual(told_in(doc, 52), {DAY: (2,)})
            self.assertEqual(told_in(doc, 0), {DAY: (1,)})
            self.assertEqual(marks(doc), [(3, 0, 1, (2,))])

    def test_two_documents_do_not_mix(self):
        one = document(told_day(1, "all"), say(2, "day"))
        other = document(tell(1, "all", row("a"), ()), say(2, *row("day a")))
        for asked in range(2):
            self.assertEqual(marks(one), [(2, 0, 1, (1,))])
            self.assertEqual(marks(other), [(2, 1, 1, (1,))])


if __name__ == "__main__":
    unittest.main()
