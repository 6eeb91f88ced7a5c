import copy
import itertools
import os
import pathlib
import subprocess
import sys
import unittest

import samples
from samples import EMPTY, SIXTY_FIGURES, WIDE, Refusals, document, part, row, say, tell
from gloss.errors import InRing
from gloss.marks import marks
from gloss.ranks import ranks, uses

ROOT = pathlib.Path(__file__).resolve().parent.parent


def using(used, order=None):
    """A document in which each telling uses just those that the dict tells: its phrase is w and its number."""
    tellings = []
    for n in order or used:
        tellings.append(tell(n, "all", (f"w{n}",), (), ("x",) + tuple(f"w{other}" for other in used[n])))
    return document(*tellings)


def due_ranks(used):
    """The ranks, or None where there is a ring: from the sets of those that are reached in some steps."""
    reached = {n: set(others) for n, others in used.items()}
    for middle, one in itertools.product(used, used):
        if middle in reached[one]:
            reached[one] |= reached[middle]
    if any(n in reached[n] for n in used):
        return None
    found = {}
    for n in sorted(used, key=lambda n: len(reached[n])):
        found[n] = max([found[other] + 1 for other in used[n]], default=0)
    return found


def all_uses(numbers):
    """Each dict of uses among the numbers."""
    choices = [[n for place, n in enumerate(numbers) if bits >> place & 1] for bits in range(2 ** len(numbers))]
    for chosen in itertools.product(choices, repeat=len(numbers)):
        yield dict(zip(numbers, chosen))


class Uses(unittest.TestCase):
    def test_no_tellings(self):
        for doc in (EMPTY, document(say(1), part(2))):
            self.assertEqual(uses(doc), {})

    def test_none_used(self):
        doc = document(tell(1, "all", row("a"), (), row("x")), say(2, "a"),
                       part(5, tell(7, "here", row("b"), (), row("y"))))
        self.assertEqual(uses(doc), {1: [], 7: []})

    def test_the_phrase_is_no_use(self):
        doc = document(tell(1, "all", row("a b"), (), row("x")), tell(2, "all", row("b"), (), row("x")))
        self.assertEqual(uses(doc), {1: [], 2: []})

    def test_say_rows_use_none(self):
        doc = document(say(1, *row("a b")), tell(2, "all", row("a"), (), row("b")),
                       tell(3, "all", row("b"), (), row("x")))
        self.assertEqual(uses(doc), {2: [3], 3: []})

    def test_each_once_and_rising(self):
        doc = document(tell(9, "all", row("a"), (), row("c b d c b b")),
                       tell(3, "all", row("b"), (("", "s"),), row("x")),
                       tell(5, "all", row("c"), (), row("b bs")), tell(1, "all", row("d"), (), row("bs c")))
        self.assertEqual(uses(doc), {9: [1, 3, 5], 3: [], 5: [3], 1: [3, 5]})

    def test_numbers_of_many_figures(self):
        great = SIXTY_FIGURES + 3
        doc = document(tell(great, "all", row("a"), (), row("b c")), tell(2, "all", row("b"), (), row("a")),
                       tell(great + 1, "all", row("c"), (), row("x")))
        self.assertEqual(uses(doc), {great: [2, great + 1], 2: [great], great + 1: []})

    def test_a_telling_that_uses_itself(self):
        self.assertEqual(uses(document(tell(4, "all", row("a"), (), row("a x")))), {4: [4]})

    def test_all_winners_of_a_clash(self):
        doc = document(tell(4, "all", row("a"), (), row("x")), tell(2, "all", row("a"), (), row("x")),
                       tell(3, "all", row("b"), (), row("a a")))
        self.assertEqual(uses(doc), {4: [], 2: [], 3: [2, 4]})

    def test_by_the_part_in_which_the_telling_stands(self):
        doc = document(tell(1, "all", row("a"), (), row("x")), tell(2, "all", row("b"), (), row("a")),
                       part(3, tell(4, "here", row("a"), (), row("x")), tell(5, "all", row("c"), (), row("a b")),
                            part(6, tell(7, "all", row("d"), (), row("a c")))))
        self.assertEqual(uses(doc), {1: [], 2: [1], 4: [], 5: [2, 4], 7: [1, 5]})

    def test_a_stronger_one_used_in_the_place_of_a_telling_itself(self):
        doc = document(tell(1, "all", row("a"), (), row("a")), tell(2, "here", row("a"), (), row("x")))
        self.assertEqual(uses(doc), {1: [2], 2: []})

    def test_many_documents(self):
        for doc in list(samples.documents()) + samples.all_documents(4) + samples.drawn_documents(400):
            self.assertEqual(uses(doc), samples.due_uses(doc), doc)

    def test_all_uses_of_three(self):
        for used in all_uses((3, 1, 2)):
            self.assertEqual(uses(using(used)), {n: sorted(others) for n, others in used.items()})


class Ranked(Refusals):
    def ring(self, doc):
        """The ring that is told, each of which uses the next one and the last one the first."""
        ring = self.refused(InRing, ranks, doc).ring
        used = samples.due_uses(doc)
        self.assertIs(type(ring), tuple)
        self.assertTrue(ring)
        self.assertEqual(len(set(ring)), len(ring), ring)
        for n, other in zip(ring, ring[1:] + ring[:1]):
            self.assertIs(type(n), int)
            self.assertIn(other, used[n], (ring, used))
        return ring

    def holds(self, doc):
        due = due_ranks(samples.due_uses(doc))
        if due is None:
            self.ring(doc)
        else:
            self.assertEqual(ranks(doc), due, doc)


class Ranks(Ranked):
    def test_no_tellings(self):
        for doc in (EMPTY, document(say(1), part(2))):
            self.assertEqual(ranks(doc), {})

    def test_none_used(self):
        self.assertEqual(ranks(using({3: [], 1: [], 2: []})), {1: 0, 2: 0, 3: 0})

    def test_a_chain(self):
        used = {1: [2], 2: [3], 3: [4], 4: []}
        for order in itertools.permutations(used):
            self.assertEqual(ranks(using(used, order)), {1: 3, 2: 2, 3: 1, 4: 0})

    def test_a_chain_of_a_hundred(self):
        rising = {n: [n + 1] if n < 100 else [] for n in range(1, 101)}
        falling = {n: [n - 1] if n > 1 else [] for n in range(1, 101)}
        self.assertEqual(ranks(using(rising)), {n: 100 - n for n in range(1, 101)})
        self.assertEqual(ranks(using(falling)), {n: n - 1 for n in range(1, 101)})
        for doc in (using(rising, samples.mixed(100)), using(falling, samples.mixed(100))):
            self.holds(doc)

    def test_one_more_than_the_greatest_rank(self):
        used = {1: [2, 4], 2: [3], 3: [4], 4: [], 5: [4, 2], 6: [1, 4], 7: [4]}
        self.assertEqual(ranks(using(used)), {1: 3, 2: 2, 3: 1, 4: 0, 5: 3, 6: 4, 7: 1})

    def test_a_telling_that_is_used_twice(self):
        doc = document(tell(1, "all", row("a"), (), row("b b c")), tell(2, "all", row("b"), (), row("c x c")),
                       tell(3, "all", row("c"), (), row("x")))
        self.assertEqual(ranks(doc), {1: 2, 2: 1, 3: 0})

    def test_winners_of_a_clash_count(self):
        doc = document(tell(1, "all", row("a"), (), row("x")), tell(2, "all", row("a"), (), row("b")),
                       tell(3, "all", row("b"), (), row("x")), tell(4, "all", row("c"), (), row("a")))
        self.assertEqual(ranks(doc), {1: 0, 2: 1, 3: 0, 4: 2})

    def test_say_rows_have_no_rank(self):
        doc = document(say(1, *row("a")), tell(2, "all", row("a"), (), row("x")), part(3, say(4, "a")))
        self.assertEqual(ranks(doc), {2: 0})

    def test_many_documents(self):
        for doc in list(samples.documents()) + samples.all_documents(4) + samples.drawn_documents(400):
            self.holds(doc)

    def test_all_uses_of_three(self):
        for used in all_uses((3, 1, 2)):
            self.holds(using(used))

    def test_uses_of_four(self):
        for used in all_uses((4, 1, 3)):
            more = {n: others + [2] for n, others in used.items()}
            self.holds(using({**more, 2: []}))
            self.holds(using({**used, 2: [1, 3, 4]}))

    def test_kinds(self):
        found = ranks(using({1: [2], 2: []}))
        self.assertIs(type(found), dict)
        self.assertEqual({type(rank) for rank in found.values()}, {int})


class Rings(Ranked):
    def test_a_telling_that_uses_itself(self):
        self.assertEqual(self.ring(using({1: [1]})), (1,))
        self.assertEqual(self.ring(using({5: [], 1: [5], 3: [3, 1, 5]})), (3,))

    def test_two(self):
        self.assertEqual(sorted(self.ring(using({1: [2], 2: [1]}))), [1, 2])

    def test_rings_of_all_lengths(self):
        for many in (3, 4, 10, 99, 100):
            for numbers in (list(range(1, many + 1)), list(range(many, 0, -1)), samples.mixed(many)):
                used = {n: [other] for n, other in zip(numbers, numbers[1:] + numbers[:1])}
                for order in (numbers, sorted(numbers)):
                    self.assertEqual(sorted(self.ring(using(used, order))), sorted(numbers))

    def test_ways_into_the_ring_and_out_of_it_are_not_in_it(self):
        used = {1: [2], 2: [3], 3: [4, 6], 4: [5], 5: [3, 7], 6: [7], 7: [], 8: [1, 3]}
        for order in (sorted(used), sorted(used, reverse=True), [4, 8, 1, 7, 3, 2, 6, 5]):
            self.assertEqual(sorted(self.ring(using(used, order))), [3, 4, 5])

    def test_two_rings(self):
        rings = [[1, 2], [4, 5, 6]]
        for order in ((1, 2, 3, 4, 5, 6), (6, 5, 4, 3, 2, 1), (3, 6, 1, 4, 2, 5)):
            self.assertIn(sorted(self.ring(using({1: [2], 2: [1], 3: [1, 4], 4: [5], 5: [6], 6: [4]}, order))), rings)

    def test_by_a_clash(self):
        doc = document(tell(1, "all", row("a"), (), row("x")), tell(2, "all", row("a"), (), row("b")),
                       tell(3, "all", row("b"), (), row("a")))
        self.assertEqual(sorted(self.ring(doc)), [2, 3])

    def test_a_ring_in_one_part_alone(self):
        doc = document(tell(1, "all", row("a"), (), row("b")), tell(2, "all", row("b"), (), row("x")),
                       part(3, tell(4, "here", row("b"), (), row("c")), tell(5, "all", row("c"), (), row("b"))))
        self.assertEqual(sorted(self.ring(doc)), [4, 5])
        apart = document(tell(1, "all", row("a"), (), row("b")), tell(2, "all", row("b"), (), row("c")),
                         part(3, tell(4, "here", row("b"), (), row("x")), tell(5, "all", row("c"), (), row("b"))))
        self.assertEqual(ranks(apart), {1: 3, 2: 2, 5: 1, 4: 0})

    def test_uses_are_told_all_the_same(self):
        doc = using({1: [2], 2: [1]})
        self.ring(doc)
        self.assertEqual(uses(doc), {1: [2], 2: [1]})


WAYS = """
from gloss.errors import InRing
from gloss.ranks import ranks
from gloss.texts import read

def rows(last):
    found = []
    for k in range(50):
        behind = f"a{k + 1} b{k + 1}" if k < 49 else last
        found += [f"tell all a{k}: {behind}", f"tell part b{k}: x {behind} {behind}"]
    return found

for found in (rows("x"), rows("x")[::-1]):
    doc = read(chr(10).join(found))
    told = ranks(doc)
    assert sorted(told.values()) == sorted(2 * list(range(50))), told
    assert told[1] in (0, 49) and told[100] == 49 - told[1], told

for last in ("a49", "b49 x", "a40", "b0"):
    for found in (rows(last), rows(last)[::-1]):
        doc = read(chr(10).join(found))
        try:
            ranks(doc)
        except InRing as refusal:
            phrases = [doc[2][n - 1][3][0] for n in refusal.ring]
            meanings = [doc[2][n - 1][5] for n in refusal.ring]
            assert len(set(phrases)) == len(phrases)
            assert all(phrase in meaning for phrase, meaning in zip(phrases[1:] + phrases[:1], meanings))
        else:
            raise AssertionError(last)
"""


class Time(unittest.TestCase):
    def test_ways_that_multiply(self):
        """Fifty times two tellings, each of which uses the next two: more ways than could be walked."""
        subprocess.run([sys.executable, "-c", WAYS], cwd=ROOT, timeout=60, check=True,
                       env={**os.environ, "PYTHONPATH": str(ROOT)})


class AskersOwn(Ranked):
    def test_uses(self):
        doc = using({1: [2, 3], 2: [3], 3: []})
        due = {1: [2, 3], 2: [3], 3: []}
        first = uses(doc)
        self.assertIs(type(first), dict)
        self.assertEqual({type(used) for used in first.values()}, {list})
        first[1].append(7)
        first[3].append(8)
        first[4] = []
        second = uses(doc)
        self.assertEqual(second, due)
        second.clear()
        self.assertEqual(uses(doc), due)
        self.assertEqual(ranks(doc), {1: 2, 2: 1, 3: 0})
        self.assertEqual(first, {1: [2, 3, 7], 2: [3], 3: [8], 4: []})

    def test_lists_of_uses_that_are_alike_are_apart(self):
        doc = using({1: [], 2: [], 3: [1], 4: [1]})
        found = uses(doc)
        found[1].append(9)
        found[3].append(9)
        self.assertEqual(found, {1: [9], 2: [], 3: [1, 9], 4: [1]})

    def test_ranks(self):
        doc = using({1: [2, 3], 2: [3], 3: []})
        first = ranks(doc)
        first[1] = 7
        second = ranks(doc)
        self.assertEqual(second, {1: 2, 2: 1, 3: 0})
        second.clear()
        self.assertEqual(ranks(doc), {1: 2, 2: 1, 3: 0})
        self.assertEqual(first, {1: 7, 2: 1, 3: 0})

    def test_the_document_stays(self):
        for doc in (EMPTY, WIDE, using({1: [2], 2: []})):
            kept = copy.deepcopy(doc)
            uses(doc)
            ranks(doc)
            self.assertEqual(doc, kept)

    def test_behind_a_refusal(self):
        ringed = using({1: [2], 2: [1], 3: [1], 4: []})
        plain = using({1: [2], 2: [], 3: [1], 4: []})
        ahead = marks(ringed)
        for asked in range(2):
            self.assertEqual(sorted(self.ring(ringed)), [1, 2])
            self.assertEqual(uses(ringed), {1: [2], 2: [1], 3: [1], 4: []})
            self.assertEqual(marks(ringed), ahead)
            self.assertEqual(ranks(plain), {1: 1, 2: 0, 3: 2, 4: 0})


if __name__ == "__main__":
    unittest.main()
