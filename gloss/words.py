"""Words, and words written as a text."""

from gloss.errors import NoWord

# Written out, since isalnum also takes letters and figures of other scripts.
WORD_SIGNS = "abcdefghijklmnopqrstuvwxyzABCDEFGHIJKLMNOPQRSTUVWXYZ0123456789"
MOST_SIGNS = 20


def is_word(thing):
    if not isinstance(thing, str):
        return False
    if len(thing) < 1 or len(thing) > MOST_SIGNS:
        return False
    return all([sign in WORD_SIGNS for sign in thing])


def words_of(text):
    # Cut at the blank by name: a split without it would pass over blanks that stand side by side.
    pieces = text.split(" ")
    for piece in pieces:
        if not is_word(piece):
            raise NoWord(f"{piece!r} is no word")
    return tuple(pieces)


def text_of(words):
    return " ".join(words)
