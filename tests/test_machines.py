import copy
import itertools
import unittest

from samples import SIXTY_FIGURES, row
from gloss.machines import Machine


def due_longest(phrases, words, at):
    return max([len(phrase) for phrase in phrases if words[at:at + len(phrase)] == phrase], default=0)


def rows_of(words, most):
    return [line for many in range(most + 1) for line in itertools.product(words, repeat=many)]


class Asked(unittest.TestCase):
    def tells(self, phrases, words, due):
        """Due are the answers at each place of the row, the one behind its last word too."""
        kept = copy.deepcopy(phrases)
        machine = Machine(phrases)
        answers = [machine.longest(words, at) for at in range(len(words) + 1)]
        self.assertEqual(answers, due, (phrases, words))
        self.assertEqual({type(answer) for answer in answers}, {int})
        self.assertEqual(phrases, kept)


class Longest(Asked):
    def test_no_phrase(self):
        self.tells([], (), [0])
        self.tells([], row("a b c"), [0, 0, 0, 0])

    def test_a_row_without_words(self):
        self.tells([row("a"), row("a b")], (), [0])

    def test_one_phrase(self):
        self.tells([row("b")], row("a b c b b"), [0, 1, 0, 1, 1, 0])
        self.tells([row("b c")], row("b c b b c c"), [2, 0, 0, 2, 0, 0, 0])

    def test_a_phrase_that_shares_words_with_itself(self):
        self.tells([row("a a")], row("a a a a"), [2, 2, 2, 0, 0])
        self.tells([row("a b a")], row("a b a b a"), [3, 0, 3, 0, 0, 0])

    def test_a_phrase_that_goes_beyond_the_row(self):
        self.tells([row("a b c d")], row("a b c"), [0, 0, 0, 0])
        self.tells([row("c d")], row("a b c"), [0, 0, 0, 0])

    def test_phrases_that_begin_alike(self):
        phrases = [row("a b c"), row("a b d"), row("a c"), row("a d a")]
        self.tells(phrases, row("a b c a b d a c a d a b"), [3, 0, 0, 3, 0, 0, 2, 0, 3, 0, 0, 0, 0])

    def test_phrases_that_end_alike(self):
        phrases = [row("a c d"), row("b c d"), row("d")]
        self.tells(phrases, row("a c d b c d c d"), [3, 0, 1, 3, 0, 1, 0, 1, 0])

    def test_phrases_that_are_beginnings_of_one_another(self):
        for phrases in itertools.permutations([row("a"), row("a b"), row("a b c d")]):
            self.tells(list(phrases), row("a b c d"), [4, 0, 0, 0, 0])
            self.tells(list(phrases), row("a b c a b c b"), [2, 0, 0, 2, 0, 0, 0, 0])
            self.tells(list(phrases), row("a a b"), [1, 2, 0, 0])

    def test_a_beginning_that_is_no_phrase(self):
        self.tells([row("a b c d"), row("a")], row("a b c"), [1, 0, 0, 0])
        self.tells([row("a b c d")], row("a b c"), [0, 0, 0, 0])

    def test_an_ending_and_a_middle_of_a_phrase_are_none(self):
        self.tells([row("a b c")], row("b c b a c"), [0, 0, 0, 0, 0, 0])

    def test_words_that_differ_by_one_sign(self):
        self.tells([row("day")], row("da days ay dav day"), [0, 0, 0, 0, 1, 0])
        self.tells([row("days"), row("day off")], row("day days day off days off"), [0, 1, 2, 0, 1, 0, 0])

    def test_words_that_differ_by_a_letters_size(self):
        self.tells([row("Day")], row("day Day DAY dAy"), [0, 1, 0, 0, 0])
        self.tells([row("the Day"), row("The")], row("the day the Day The Day"), [0, 0, 2, 0, 1, 0, 0])

    def test_words_that_make_the_same_signs_side_by_side(self):
        self.tells([row("ab c")], row("a bc ab c abc"), [0, 0, 2, 0, 0, 0])
        self.tells([row("1 1")], row("11 1 1 1"), [0, 2, 2, 0, 0])

    def test_phrases_that_are_alike(self):
        self.tells([row("a b"), row("a b"), row("a"), row("a b")], row("a b a"), [2, 0, 1, 0])

    def test_the_answer_hangs_on_the_place_alone(self):
        machine = Machine([row("a b"), row("b"), row("b c a")])
        words = row("a b c a b")
        due = [2, 3, 0, 2, 1, 0]
        for places in itertools.permutations(range(6)):
            self.assertEqual([machine.longest(words, at) for at in places], [due[at] for at in places])

    def test_all_short_rows_and_phrases(self):
        phrases = [phrase for phrase in rows_of("ab", 3) if phrase]
        rows = rows_of("ab", 4)
        for many in (0, 1, 2):
            for chosen in itertools.combinations(phrases, many):
                machine = Machine(list(chosen))
                for words in rows:
                    for at in range(len(words) + 1):
                        answer = machine.longest(words, at)
                        self.assertEqual(answer, due_longest(chosen, words, at), (chosen, words, at))

    def test_rows_of_three_words_and_many_phrases(self):
        phrases = [phrase for phrase in rows_of("abc", 4) if phrase]
        for step in (2, 3, 5, 7, 11):
            chosen = phrases[step - 1::step]
            for words in rows_of("abc", 4)[::3] + [tuple("abcabacbaabbccab"), tuple("cbacbbaaccba")]:
                self.tells(chosen, words, [due_longest(chosen, words, at) for at in range(len(words) + 1)])

    def test_three_hundred_phrases(self):
        phrases = [(f"w{k}", f"w{k + 1}", "end") for k in range(150)] + [(f"w{k}",) for k in range(150)]
        words = tuple(f"w{k}" for k in range(100)) + ("w7", "w8", "end", "w9", "end")
        self.tells(phrases, words, [1] * 100 + [3, 1, 0, 1, 0, 0])

    def test_long_phrases(self):
        phrases = [("a",) * many for many in (1, 2, 50, 300)]
        self.tells(phrases, ("a",) * 200, [50] * 151 + [2] * 48 + [1, 0])
        self.tells(phrases, ("a",) * 301, [300] * 2 + [50] * 250 + [2] * 48 + [1, 0])

    def test_at_what_is_no_place_of_the_row_nothing_stands(self):
        machine = Machine([row("a"), row("a b"), row("b"), row("b a")])
        for words in (row("a b"), row("b a"), row("a"), ()):
            for at in (-1, -2, -3, -SIXTY_FIGURES, len(words) + 1, len(words) + 2, SIXTY_FIGURES):
                self.assertEqual(machine.longest(words, at), 0, (words, at))


class Kept(Asked):
    def answers(self, machine):
        return [machine.longest(row("a b c a"), at) for at in range(5)]

    def test_the_list_is_changed_later(self):
        for change in (list.clear, lambda phrases: phrases.append(row("c")), lambda phrases: phrases.pop(0),
                       lambda phrases: phrases.__setitem__(0, row("a b c a")), list.reverse):
            phrases = [row("a b"), row("c a")]
            machine = Machine(phrases)
            change(phrases)
            self.assertEqual(self.answers(machine), [2, 0, 2, 0, 0])
            change(phrases)
            self.assertEqual(self.answers(machine), [2, 0, 2, 0, 0])

    def test_a_list_that_was_empty(self):
        phrases = []
        machine = Machine(phrases)
        phrases.append(row("a"))
        self.assertEqual(self.answers(machine), [0, 0, 0, 0, 0])
        self.assertEqual(self.answers(Machine(phrases)), [1, 0, 0, 1, 0])

    def test_two_machines_do_not_mix(self):
        phrases = [row("a b")]
        one = Machine(phrases)
        phrases.append(row("a b c"))
        other = Machine(phrases)
        third = Machine([row("b"), row("a")])
        for asked in range(2):
            self.assertEqual(self.answers(one), [2, 0, 0, 0, 0])
            self.assertEqual(self.answers(other), [3, 0, 0, 0, 0])
            self.assertEqual(self.answers(third), [1, 1, 0, 1, 0])

    def test_the_list_that_is_handed_in_stays(self):
        phrases = [row("b"), row("a b"), row("b"), row("a")]
        machine = Machine(phrases)
        self.answers(machine)
        self.assertEqual(phrases, [row("b"), row("a b"), row("b"), row("a")])

    def test_the_same_machine_tells_of_several_rows(self):
        machine = Machine([row("a"), row("b a")])
        for asked in range(2):
            self.assertEqual(machine.longest(row("b a"), 0), 2)
            self.assertEqual(machine.longest(row("b b"), 0), 0)
            self.assertEqual(machine.longest(row("b b a"), 1), 2)
            self.assertEqual(machine.longest(row("a"), 0), 1)


if __name__ == "__main__":
    unittest.main()
