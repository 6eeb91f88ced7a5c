"""Documents written as texts, and read of them."""

from gloss.errors import NoEnd, NoForm, NoRow, NoWord, TooDeep
from gloss.forms import forms
from gloss.scopes import SCOPES
from gloss.words import is_word, text_of, words_of

MOST_WORDS = 200
MOST_PHRASE_WORDS = 4
MOST_BENDS = 5
DEEPEST_PART = 8


def telling_row(telling):
    bends = [f" {cut}>{put}" for cut, put in telling[4]]
    head = "tell " + telling[2] + " " + text_of(telling[3]) + "".join(bends)
    return head + ": " + text_of(telling[5])


def rows_within(part):
    rows = []
    for thing in part[2]:
        if thing[0] == "part":
            rows.append("part")
            rows.extend(rows_within(thing))
            rows.append("end")
        elif thing[0] == "tell":
            rows.append(telling_row(thing))
        else:
            rows.append("say " + text_of(thing[2]))
    return rows


def written(doc):
    return "\n".join(rows_within(doc))


# From here to read_row, None is answered where nothing can be read: only read knows the row's number for NoRow.
def read_words(text):
    try:
        words = words_of(text)
    except NoWord:
        return None
    return words if len(words) <= MOST_WORDS else None


def read_bend(piece):
    sides = piece.split(">")
    if len(sides) != 2:
        return None
    for side in sides:
        if side != "" and not is_word(side):
            return None
    return tuple(sides)


def read_phrase_and_bends(pieces):
    many = 0
    while many < len(pieces) and is_word(pieces[many]):
        many += 1
    if many < 1 or many > MOST_PHRASE_WORDS:
        return None
    bends = tuple([read_bend(piece) for piece in pieces[many:]])
    if len(bends) > MOST_BENDS or None in bends:
        return None
    return (tuple(pieces[:many]), bends)


def has_forms(phrase, bends):
    try:
        forms(phrase, bends)
    except NoForm:
        return False
    return True


def read_say(text, number):
    words = read_words(text)
    if words is None:
        return None
    return ("say", number, words)


def read_telling(text, number):
    # No word and no bend has a colon, so a row has just one place to be cut at.
    sides = text.split(": ")
    if len(sides) != 2:
        return None
    pieces = sides[0].split(" ")
    told = read_phrase_and_bends(pieces[1:])
    meaning = read_words(sides[1])
    if pieces[0] not in SCOPES or told is None or meaning is None:
        return None
    if not has_forms(told[0], told[1]):
        return None
    return ("tell", number, pieces[0], told[0], told[1], meaning)


def read_row(row, number):
    if row.startswith("say "):
        return read_say(row[len("say "):], number)
    if row.startswith("tell "):
        return read_telling(row[len("tell "):], number)
    return None


def cut_in_rows(text):
    # Without signs there is no row at all, where the cutting would make one.
    return text.split("\n") if text != "" else []


def end_part(unended):
    ended = unended.pop()
    unended[-1][1].append(("part", ended[0], tuple(ended[1])))


def read(text):
    # The parts that are not ended yet, from the document inwards: of each its number and what was read of its things.
    unended = [(0, [])]
    number = 0
    for at, row in enumerate(cut_in_rows(text)):
        if row == "end":
            if len(unended) == 1:
                raise NoRow(at)
            end_part(unended)
            continue
        number += 1
        if row == "part":
            if len(unended) > DEEPEST_PART:
                raise TooDeep(f"the part of row {at} would stand deeper than {DEEPEST_PART}")
            unended.append((number, []))
            continue
        thing = read_row(row, number)
        if thing is None:
            raise NoRow(at)
        unended[-1][1].append(thing)
    if len(unended) > 1:
        raise NoEnd("a part is not ended")
    return ("part", 0, tuple(unended[0][1]))
