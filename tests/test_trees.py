import copy
import unittest

import samples
from samples import EMPTY, WIDE, Refusals, chain, document, part, say, tell
from gloss.errors import NoPlace, NoThing
from gloss.trees import find_thing, home, placed, swapped, taken, things_of


def all_samples():
    return list(samples.documents()) + samples.all_documents(4)


def token_place(doc, n):
    """Where the thing's tokens begin and end in the document's row of tokens."""
    numbers = [token[1] for token in samples.tokens(doc)]
    last = len(numbers) - 1 - numbers[::-1].index(n)
    return numbers.index(n), last + 1


def due_things(doc):
    found = []
    for n in samples.numbers_of(doc):
        begin, end = token_place(doc, n)
        found.append(samples.tree(samples.tokens(doc)[begin:end])[2][0])
    return found


def due_home(doc, n):
    path = [0]
    for token in samples.tokens(doc)[:token_place(doc, n)[0]]:
        if token[0] == "opening":
            path.append(token[1])
        elif token[0] == "closing":
            path.pop()
    return tuple(path)


def due_swapped(doc, n, *others):
    begin, end = token_place(doc, n)
    row = samples.tokens(doc)
    return samples.tree(row[:begin] + samples.tokens(document(*others)) + row[end:])


def due_placed(doc, into, at, thing):
    row = samples.tokens(doc)
    begin = 0 if into == 0 else token_place(doc, into)[0] + 1
    for thing_ahead in straight_in(doc, into)[:at]:
        begin = token_place(doc, thing_ahead[1])[1]
    return samples.tree(row[:begin] + samples.tokens(document(thing)) + row[begin:])


def straight_in(doc, n):
    return doc[2] if n == 0 else samples.tree(samples.tokens(doc)[slice(*token_place(doc, n))])[2][0][2]


def parts_of(doc):
    return [0] + [token[1] for token in samples.tokens(doc) if token[0] == "opening"]


def where(doc, n):
    """The part in which the thing stands straight, and its place there."""
    into = due_home(doc, n)[-1]
    return into, [thing[1] for thing in straight_in(doc, into)].index(n)


class ThingsOf(unittest.TestCase):
    def test_no_things(self):
        self.assertEqual(things_of(EMPTY), [])

    def test_things_side_by_side(self):
        doc = document(say(3), tell(1), part(2), say(9))
        self.assertEqual(things_of(doc), [say(3), tell(1), part(2), say(9)])

    def test_a_part_comes_ahead_of_what_stands_in_it_and_this_ahead_of_what_stands_behind(self):
        inner = part(4, say(9), tell(2))
        outer = part(8, say(1), inner, say(7))
        doc = document(tell(6), outer, say(3))
        self.assertEqual(things_of(doc), [tell(6), outer, say(1), inner, say(9), tell(2), say(7), say(3)])

    def test_all_samples(self):
        for doc in all_samples():
            self.assertEqual(things_of(doc), due_things(doc))

    def test_depths(self):
        for depth in range(1, 11):
            doc = chain(depth)
            self.assertEqual([thing[1] for thing in things_of(doc)], list(range(1, 4 * depth + 1)))

    def test_three_hundred_things(self):
        doc = document(*[part(3 * k + 1, say(3 * k + 2), tell(3 * k + 3)) for k in range(100)])
        self.assertEqual([thing[1] for thing in things_of(doc)], list(range(1, 301)))

    def test_the_list_is_new_and_the_askers_own(self):
        for doc in (EMPTY, WIDE, chain(8)):
            due = due_things(doc)
            first = things_of(doc)
            self.assertIs(type(first), list)
            first.append("more")
            first.reverse()
            second = things_of(doc)
            self.assertEqual(second, due)
            second.clear()
            self.assertEqual(things_of(doc), due)
            self.assertEqual(first, (due + ["more"])[::-1])


class FindThing(Refusals):
    def test_the_document_itself(self):
        for doc in all_samples():
            self.assertEqual(find_thing(doc, 0), doc)

    def test_each_thing(self):
        for doc in all_samples():
            for thing in due_things(doc):
                self.assertEqual(find_thing(doc, thing[1]), thing)

    def test_numbers_that_no_thing_has(self):
        for doc in all_samples():
            for n in samples.unknown_numbers(doc):
                self.refused(NoThing, find_thing, doc, n)

    def test_a_gap_among_the_numbers(self):
        doc = document(say(1), part(5, say(3)))
        for n in (2, 4, 6, -1, -3, -5):
            self.refused(NoThing, find_thing, doc, n)


class Home(Refusals):
    def test_the_document_itself(self):
        for doc in all_samples():
            self.assertEqual(home(doc, 0), ())

    def test_things_straight_in_the_document(self):
        doc = document(say(7), tell(2), part(5, say(1)), say(3))
        for n in (7, 2, 5, 3):
            self.assertEqual(home(doc, n), (0,))

    def test_things_in_parts(self):
        doc = document(part(5, say(1), part(9, tell(4), part(2))), part(3, say(8)))
        self.assertEqual([home(doc, n) for n in (5, 1, 9, 4, 2, 3, 8)],
                         [(0,), (0, 5), (0, 5), (0, 5, 9), (0, 5, 9), (0,), (0, 3)])

    def test_each_thing(self):
        for doc in all_samples():
            for n in samples.numbers_of(doc):
                self.assertEqual(home(doc, n), due_home(doc, n))
                self.assertIs(type(home(doc, n)), tuple)

    def test_depths(self):
        for depth in range(1, 11):
            doc = part(depth, say(11))
            for number in reversed(range(1, depth)):
                doc = part(number, doc)
            doc = document(doc)
            self.assertEqual(home(doc, 11), tuple(range(0, depth + 1)))
            self.assertEqual(home(doc, depth), tuple(range(0, depth)))

    def test_numbers_that_no_thing_has(self):
        for doc in all_samples():
            for n in samples.unknown_numbers(doc):
                self.refused(NoThing, home, doc, n)


class Taken(Refusals):
    def test_a_thing_with_all_that_stands_in_it(self):
        doc = document(say(1), part(2, say(3), part(4, tell(5)), tell(6)), say(7))
        self.assertEqual(taken(doc, 1), document(*doc[2][1:]))
        self.assertEqual(taken(doc, 2), document(say(1), say(7)))
        self.assertEqual(taken(doc, 4), document(say(1), part(2, say(3), tell(6)), say(7)))
        self.assertEqual(taken(doc, 5), document(say(1), part(2, say(3), part(4), tell(6)), say(7)))
        self.assertEqual(taken(document(say(1)), 1), EMPTY)

    def test_each_thing(self):
        for doc in all_samples():
            kept = copy.deepcopy(doc)
            for n in samples.numbers_of(doc):
                self.assertEqual(taken(doc, n), due_swapped(doc, n))
            self.assertEqual(doc, kept)

    def test_each_thing_put_back_where_it_stood(self):
        for doc in all_samples():
            for thing in due_things(doc):
                into, at = where(doc, thing[1])
                self.assertEqual(placed(taken(doc, thing[1]), into, at, thing), doc)

    def test_refused(self):
        for doc in all_samples():
            for n in [0] + samples.unknown_numbers(doc):
                self.refused(NoThing, taken, doc, n)

    def test_what_is_taken_out_is_there_no_more(self):
        less = taken(WIDE, 7)
        for n in (7, 8, 9, 10):
            self.refused(NoThing, find_thing, less, n)
            self.refused(NoThing, taken, less, n)


class Placed(Refusals):
    NEW = (say(500, "new"), tell(500, "here"), part(500), part(500, say(501), part(502, tell(503)), say(504)))

    def test_into_the_document(self):
        doc = document(say(1), part(2, say(3)))
        self.assertEqual(placed(EMPTY, 0, 0, say(9)), document(say(9)))
        self.assertEqual(placed(doc, 0, 0, say(9)), document(say(9), say(1), part(2, say(3))))
        self.assertEqual(placed(doc, 0, 1, say(9)), document(say(1), say(9), part(2, say(3))))
        self.assertEqual(placed(doc, 0, 2, say(9)), document(say(1), part(2, say(3)), say(9)))

    def test_into_a_part(self):
        doc = document(say(1), part(2, say(3)), part(4, part(5)))
        self.assertEqual(placed(doc, 2, 0, tell(9))[2][1], part(2, tell(9), say(3)))
        self.assertEqual(placed(doc, 2, 1, tell(9))[2][1], part(2, say(3), tell(9)))
        self.assertEqual(placed(doc, 5, 0, tell(9)), document(say(1), part(2, say(3)), part(4, part(5, tell(9)))))

    def test_each_place(self):
        for doc in all_samples():
            kept = copy.deepcopy(doc)
            for into in parts_of(doc):
                for at in range(0, len(straight_in(doc, into)) + 1):
                    for new in self.NEW:
                        answer = placed(doc, into, at, new)
                        self.assertEqual(answer, due_placed(doc, into, at, new))
                        self.assertEqual(taken(answer, 500), doc)
                        self.assertEqual(find_thing(answer, 500), new)
            self.assertEqual(doc, kept)

    def test_a_new_thing_with_sixty_figures(self):
        new = say(10 ** 60 - 1)
        self.assertEqual(placed(WIDE, 9, 0, new), due_placed(WIDE, 9, 0, new))

    def test_no_such_part(self):
        for doc in all_samples():
            leaves = [n for n in samples.numbers_of(doc) if n not in parts_of(doc)]
            for into in leaves + samples.unknown_numbers(doc):
                self.refused(NoThing, placed, doc, into, 0, say(500))

    def test_no_such_place(self):
        for doc in all_samples():
            for into in parts_of(doc):
                many = len(straight_in(doc, into))
                for at in (-1, -many, -many - 1, many + 1, many + 2, many + 1000, 10 ** 59, -10 ** 59):
                    if at != 0:
                        self.refused(NoPlace, placed, doc, into, at, say(500))

    def test_no_such_part_and_no_such_place(self):
        for doc in (EMPTY, WIDE, chain(8)):
            leaves = [n for n in samples.numbers_of(doc) if n not in parts_of(doc)]
            for into in leaves + samples.unknown_numbers(doc):
                for at in (-1, 1000, 10 ** 59):
                    self.refused(NoThing, placed, doc, into, at, say(500))

    def test_nothing_is_asked_of_depth(self):
        doc = document()
        for depth in range(1, 11):
            doc = placed(doc, depth - 1, 0, part(depth))
            self.assertEqual(home(doc, depth), tuple(range(0, depth)))


class Swapped(Refusals):
    def others(self, n):
        return (say(n, "new"), tell(n, "else"), part(n), part(n, say(701), part(702, tell(703)), say(704)))

    def test_things(self):
        doc = document(say(1), part(2, say(3), tell(4)), say(5))
        self.assertEqual(swapped(doc, 1, tell(9)), document(tell(9), part(2, say(3), tell(4)), say(5)))
        self.assertEqual(swapped(doc, 2, say(2)), document(say(1), say(2), say(5)))
        self.assertEqual(swapped(doc, 4, part(9)), document(say(1), part(2, say(3), part(9)), say(5)))

    def test_each_thing_with_its_own_number_and_another_and_back(self):
        for doc in all_samples():
            kept = copy.deepcopy(doc)
            for thing in due_things(doc):
                for other in self.others(thing[1]) + self.others(700):
                    answer = swapped(doc, thing[1], other)
                    self.assertEqual(answer, due_swapped(doc, thing[1], other))
                    self.assertEqual(swapped(answer, other[1], thing), doc)
            self.assertEqual(doc, kept)

    def test_a_part_for_one_that_has_more_within(self):
        doc = document(part(1, say(2), part(3)), say(4))
        bigger = part(1, say(2), part(3), part(9))
        self.assertEqual(swapped(doc, 1, bigger), document(bigger, say(4)))
        wrapped = part(9, doc[2][0])
        self.assertEqual(swapped(doc, 1, wrapped), document(wrapped, say(4)))

    def test_a_thing_for_itself(self):
        for thing in due_things(WIDE):
            self.assertEqual(swapped(WIDE, thing[1], thing), WIDE)

    def test_refused(self):
        for doc in all_samples():
            for n in [0] + samples.unknown_numbers(doc):
                self.refused(NoThing, swapped, doc, n, say(500))


class Kinds(unittest.TestCase):
    def tuples_throughout(self, value):
        if not isinstance(value, (str, int)):
            self.assertIs(type(value), tuple)
            for inner in value:
                self.tuples_throughout(inner)

    def test_documents_that_are_told_are_tuples_throughout(self):
        for doc in (WIDE, chain(10)):
            for n in samples.numbers_of(doc):
                self.tuples_throughout(taken(doc, n))
                self.tuples_throughout(swapped(doc, n, part(500, say(501))))
            for into in parts_of(doc):
                self.tuples_throughout(placed(doc, into, 0, part(500, say(501))))


class BehindARefusal(Refusals):
    def answers(self):
        return (things_of(WIDE), find_thing(WIDE, 8), find_thing(WIDE, 0), home(WIDE, 8), home(WIDE, 0), taken(WIDE, 7),
                placed(WIDE, 7, 1, say(500)), placed(WIDE, 0, 0, say(500)), swapped(WIDE, 5, say(500)))

    def test_the_same_questions_are_answered_as_ahead_of_it(self):
        ahead = self.answers()
        for again in range(2):
            for error, ask, handed in (
                    (NoThing, find_thing, (WIDE, -8)), (NoThing, home, (WIDE, 500)), (NoThing, taken, (WIDE, 0)),
                    (NoThing, taken, (WIDE, 500)), (NoThing, placed, (WIDE, 8, 0, say(500))),
                    (NoPlace, placed, (WIDE, 7, 4, say(500))), (NoPlace, placed, (WIDE, 0, -1, say(500))),
                    (NoThing, swapped, (WIDE, 0, say(500))), (NoThing, swapped, (WIDE, -5, say(500)))):
                self.refused(error, ask, *handed)
                self.assertEqual(self.answers(), ahead)


if __name__ == "__main__":
    unittest.main()
