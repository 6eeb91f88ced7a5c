"""What is told about a document: tellings without a mark, capital words without a telling, and clashes."""

from gloss.marks import marks
from gloss.trees import rows_with_homes, tellings_numbers


def unused(doc):
    winners = {}
    for mark in marks(doc):
        for winner in mark[3]:
            winners[winner] = True
    return [n for n in sorted(tellings_numbers(doc)) if n not in winners]


def untold(doc):
    marked = {}
    for number, start, length, winners in marks(doc):
        for at in range(start, start + length):
            marked[(number, at)] = True
    found = []
    for number, words, path in rows_with_homes(doc):
        for at, word in enumerate(words):
            if "A" <= word[0] <= "Z" and (number, at) not in marked:
                found.append((number, at))
    return found


def clashes(doc):
    return [mark for mark in marks(doc) if len(mark[3]) > 1]
