"""Documents for the tests, and plain models: of documents as rows of tokens, and of what is told and marked in them."""

import copy
import random
import unittest

from gloss.errors import GlossError

SIXTY_FIGURES = 10 ** 59
FAR = (1000, SIXTY_FIGURES + 500, 10 ** 60 - 1)


def row(text):
    return tuple(text.split())


def say(number, *words):
    return ("say", number, words or ("a", "day"))


def tell(number, scope="all", phrase=("day",), bends=(("", "s"),), meaning=("some", "hours")):
    return ("tell", number, scope, phrase, bends, meaning)


def part(number, *things):
    return ("part", number, things)


def document(*things):
    return ("part", 0, things)


def tokens(doc):
    """The things in their order, a part as its opening and its closing."""
    found = []
    for thing in doc[2]:
        if thing[0] == "part":
            found += [("opening", thing[1])] + tokens(thing) + [("closing", thing[1])]
        else:
            found.append(thing)
    return found


def tree(line):
    """The document of a row of tokens."""
    levels = [[]]
    for token in line:
        if token[0] == "opening":
            levels.append([])
        elif token[0] == "closing":
            things = tuple(levels.pop())
            levels[-1].append(("part", token[1], things))
        else:
            levels[-1].append(token)
    return ("part", 0, tuple(levels[0]))


def numbers_of(doc):
    return [token[1] for token in tokens(doc) if token[0] != "closing"]


def numbered(doc, numbers):
    """The document with other numbers, in the order of its things."""
    new = dict(zip(numbers_of(doc), numbers))
    return tree([(token[0], new[token[1]]) + token[2:] for token in tokens(doc)])


def chain(depth):
    """Parts within one another down to the depth, things ahead of and behind each of them, the last without things."""
    line = []
    for level in range(depth):
        line += [say(4 * level + 1), ("opening", 4 * level + 2)]
    for level in reversed(range(depth)):
        line += [("closing", 4 * level + 2), tell(4 * level + 3), say(4 * level + 4, "b")]
    doc = tree(line)
    return numbered(doc, range(1, 4 * depth + 1))


def rows_of_trees(many):
    """Each row of token rows with that many things: a say row, a telling or a part, in all shapes."""
    if many == 0:
        return [[]]
    found = []
    for within in range(many):
        for behind in rows_of_trees(many - 1 - within):
            if within == 0:
                found += [[("say",)] + behind, [("tell",)] + behind]
            for inner in rows_of_trees(within):
                found.append([("opening",)] + inner + [("closing",)] + behind)
    return found


def shaped(line):
    """The document of such a row, its numbers rising from 1 on."""
    last = 0
    unended = []
    made = []
    for token in line:
        if token[0] == "closing":
            made.append(("closing", unended.pop()))
            continue
        last += 1
        if token[0] == "opening":
            unended.append(last)
            made.append(("opening", last))
        else:
            made.append(say(last) if token[0] == "say" else tell(last))
    return tree(made)


def all_documents(most):
    return [shaped(line) for many in range(most + 1) for line in rows_of_trees(many)]


def mixed(count):
    """The numbers 1 to count, neither rising nor falling."""
    return list(range(2, count + 1, 2)) + list(reversed(range(1, count + 1, 2)))


EMPTY = document()

WIDE = document(
    say(1), tell(2), part(3), say(4, "b"),
    part(5, say(6), part(7, tell(8, "here"), part(9), say(10)), part(11), tell(12, "else"), part(13, say(14))),
    tell(15, "part"), part(16, part(17, part(18))), say(19),
)


def documents():
    """Documents of many shapes, each with numbers that rise, fall, are mixed, and have sixty figures."""
    small = [EMPTY, WIDE, document(say(1)), document(tell(1)), document(part(1))]
    for doc in small + [chain(depth) for depth in (1, 2, 8, 9, 10)]:
        count = len(numbers_of(doc))
        yield doc
        yield numbered(doc, reversed(range(1, count + 1)))
        yield numbered(doc, mixed(count))
        yield numbered(doc, [SIXTY_FIGURES + (7 * place) % 101 for place in range(count)])


def with_paths(doc):
    """Tuples (token, path of the part in which it stands straight) of all things in their order."""
    path = (0,)
    found = []
    for token in tokens(doc):
        if token[0] == "closing":
            path = path[:-1]
        else:
            found.append((token, path))
        if token[0] == "opening":
            path += (token[1],)
    return found


def parts_with_paths(doc):
    return {0: (0,), **{token[1]: path + (token[1],) for token, path in with_paths(doc) if token[0] == "opening"}}


def due_forms(phrase, bends):
    found = [phrase]
    for cut, put in bends:
        assert phrase[-1].endswith(cut)
        found.append(phrase[:-1] + (phrase[-1][:len(phrase[-1]) - len(cut)] + put,))
    return found


def due_strength(scope, told, place):
    if scope == "here":
        return 100 if told == place else -1
    if scope == "part":
        return 1 + len(told) if told in [place[:many] for many in range(len(place) + 1)] else -1
    return {"else": 0, "all": 1}[scope]


def due_told(doc, n):
    """All triples (phrase, strength, number), and of each phrase those of the greatest strength."""
    place = parts_with_paths(doc)[n]
    triples = [(form, due_strength(token[2], path, place), token[1])
               for token, path in with_paths(doc) if token[0] == "tell" for form in due_forms(token[3], token[4])]
    triples = [triple for triple in triples if triple[1] >= 0]
    found = {}
    for form in {triple[0] for triple in triples}:
        greatest = max(strength for other, strength, number in triples if other == form)
        winners = [number for other, strength, number in triples if (other, strength) == (form, greatest)]
        found[form] = tuple(sorted(winners))
    return found


def due_marks_of(told, words):
    """The longest stretch that is told at each start, less those that begin within an earlier one that is marked."""
    longest = {}
    for start in range(len(words)):
        for end in range(start + 1, len(words) + 1):
            if words[start:end] in told:
                longest[start] = end
    found = []
    free = 0
    for start in sorted(longest):
        if start >= free:
            free = longest[start]
            found.append((start, free - start, told[words[start:free]]))
    return found


def due_rows(doc):
    """Tuples (number, words, part) of the say rows and of the meanings."""
    return [(token[1], token[-1], path[-1]) for token, path in with_paths(doc) if token[0] != "opening"]


def due_marks(doc):
    return [(number,) + mark for number, words, into in due_rows(doc)
            for mark in due_marks_of(due_told(doc, into), words)]


def due_uses(doc):
    found = {token[1]: set() for token, path in with_paths(doc) if token[0] == "tell"}
    for number, start, length, winners in due_marks(doc):
        if number in found:
            found[number] |= set(winners)
    return {number: sorted(used) for number, used in found.items()}


DRAWN_WORDS = ("a", "as", "b", "bs", "A", "As", "c", "B1", "1B")


def drawn_bends(chance, phrase):
    bends = chance.choice([(), (("", "s"),), (("", "s"), ("", "es")), (("s", ""),), ((phrase[-1], "b"), ("", "1"))])
    found = due_forms(phrase, bends) if all(phrase[-1].endswith(cut) for cut, put in bends) else [phrase, phrase]
    return bends if len(set(found)) == len(found) and "" not in [form[-1] for form in found] else ()


def drawn_words(chance, most, known):
    return tuple(chance.choice(DRAWN_WORDS[:known]) for place in range(chance.randint(1, most)))


def drawn_thing(chance, number, known):
    if chance.random() < 0.5:
        return say(number, *drawn_words(chance, 8, known))
    phrase = drawn_words(chance, chance.choice((1, 1, 2, 3)), known)
    scope = chance.choice(("all", "part", "here", "else"))
    return tell(number, scope, phrase, drawn_bends(chance, phrase), drawn_words(chance, 5, known))


def drawn(seed):
    """A document of few words, drawn by the seed: the same one each time."""
    chance = random.Random(seed)
    known = chance.randint(1, len(DRAWN_WORDS))
    line = []
    unended = []
    count = chance.randint(0, 16)
    for number in chance.sample(range(1, 2 * count + 1), count):
        while unended and chance.random() < 0.2:
            line.append(("closing", unended.pop()))
        if chance.random() < 0.3 and len(unended) < 8:
            line.append(("opening", number))
            unended.append(number)
        else:
            line.append(drawn_thing(chance, number, known))
    return tree(line + [("closing", number) for number in reversed(unended)])


def drawn_documents(many):
    return [drawn(seed) for seed in range(many)]


def unknown_numbers(doc):
    numbers = numbers_of(doc)
    beyond = FAR + (max(numbers, default=0) + 1,)
    return [-1, -10 ** 59] + [-n for n in numbers] + [n for n in beyond if n not in numbers]


class Refusals(unittest.TestCase):
    def refused(self, error, ask, *handed):
        kept = copy.deepcopy(handed)
        with self.assertRaises(GlossError, msg=handed) as caught:
            ask(*handed)
        self.assertIs(type(caught.exception), error, handed)
        self.assertEqual(handed, kept)
        return caught.exception
