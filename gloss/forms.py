"""Bends, and the forms that a phrase takes by them."""

from gloss.errors import NoForm
from gloss.words import is_word


def bent(phrase, bend):
    last = phrase[-1]
    cut = bend[0]
    if not last.endswith(cut):
        raise NoForm(f"{last!r} does not end in {cut!r}")
    # Counted from the front: a slice to -len(cut) would take all where cut has no signs.
    new_last = last[:len(last) - len(cut)] + bend[1]
    if not is_word(new_last):
        raise NoForm(f"{new_last!r} is no word")
    return phrase[:-1] + (new_last,)


def forms(phrase, bends):
    found = [phrase]
    for bend in bends:
        form = bent(phrase, bend)
        if form in found:
            raise NoForm(f"two forms are alike: {form!r}")
        found.append(form)
    return tuple(found)
