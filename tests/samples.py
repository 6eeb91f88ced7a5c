"""Documents for the tests, and a plain model of them: a row of tokens, from which trees are built again."""

SIXTY_FIGURES = 10 ** 59


def say(number, *words):
    return ("say", number, words or ("a", "day"))


def tell(number, scope="all", phrase=("day",), bends=(("", "s"),), meaning=("some", "hours")):
    return ("tell", number, scope, phrase, bends, meaning)


def part(number, *things):
    return ("part", number, things)


def document(*things):
    return ("part", 0, things)


def tokens(doc):
    """The things in their order, a part as its opening and its closing."""
    found = []
    for thing in doc[2]:
        if thing[0] == "part":
            found += [("opening", thing[1])] + tokens(thing) + [("closing", thing[1])]
        else:
            found.append(thing)
    return found


def tree(row):
    """The document of a row of tokens."""
    levels = [[]]
    for token in row:
        if token[0] == "opening":
            levels.append([])
        elif token[0] == "closing":
            things = tuple(levels.pop())
            levels[-1].append(("part", token[1], things))
        else:
            levels[-1].append(token)
    return ("part", 0, tuple(levels[0]))


def numbers_of(doc):
    return [token[1] for token in tokens(doc) if token[0] != "closing"]


def numbered(doc, numbers):
    """The document with other numbers, in the order of its things."""
    new = dict(zip(numbers_of(doc), numbers))
    return tree([(token[0], new[token[1]]) + token[2:] for token in tokens(doc)])


def chain(depth):
    """Parts within one another down to the depth, things ahead of and behind each of them, the last without things."""
    row = []
    for level in range(depth):
        row += [say(4 * level + 1), ("opening", 4 * level + 2)]
    for level in reversed(range(depth)):
        row += [("closing", 4 * level + 2), tell(4 * level + 3), say(4 * level + 4, "b")]
    doc = tree(row)
    return numbered(doc, range(1, 4 * depth + 1))


def rows_of_trees(many):
    """Each row of token rows with that many things: a say row, a telling or a part, in all shapes."""
    if many == 0:
        return [[]]
    found = []
    for within in range(many):
        for behind in rows_of_trees(many - 1 - within):
            if within == 0:
                found += [[("say",)] + behind, [("tell",)] + behind]
            for inner in rows_of_trees(within):
                found.append([("opening",)] + inner + [("closing",)] + behind)
    return found


def shaped(row):
    """The document of such a row, its numbers rising from 1 on."""
    last = 0
    unended = []
    made = []
    for token in row:
        if token[0] == "closing":
            made.append(("closing", unended.pop()))
            continue
        last += 1
        if token[0] == "opening":
            unended.append(last)
            made.append(("opening", last))
        else:
            made.append(say(last) if token[0] == "say" else tell(last))
    return tree(made)


def all_documents(most):
    return [shaped(row) for many in range(most + 1) for row in rows_of_trees(many)]


def mixed(count):
    """The numbers 1 to count, neither rising nor falling."""
    return list(range(2, count + 1, 2)) + list(reversed(range(1, count + 1, 2)))


EMPTY = document()

WIDE = document(
    say(1), tell(2), part(3), say(4, "b"),
    part(5, say(6), part(7, tell(8, "here"), part(9), say(10)), part(11), tell(12, "else"), part(13, say(14))),
    tell(15, "part"), part(16, part(17, part(18))), say(19),
)


def documents():
    """Documents of many shapes, each with numbers that rise, fall, are mixed, and have sixty figures."""
    small = [EMPTY, WIDE, document(say(1)), document(tell(1)), document(part(1))]
    for doc in small + [chain(depth) for depth in (1, 2, 8, 9, 10)]:
        count = len(numbers_of(doc))
        yield doc
        yield numbered(doc, reversed(range(1, count + 1)))
        yield numbered(doc, mixed(count))
        yield numbered(doc, [SIXTY_FIGURES + (7 * place) % 101 for place in range(count)])
