"""Which tellings a telling uses, and the ranks that show that no meaning leans on itself."""

from gloss.errors import InRing
from gloss.marks import marks
from gloss.trees import tellings_numbers


def uses(doc):
    found = {}
    for n in tellings_numbers(doc):
        found[n] = []
    for mark in marks(doc):
        if mark[0] in found:
            found[mark[0]].extend(mark[3])
    for n in list(found):
        found[n] = sorted(set(found[n]))
    return found


def all_ranked(numbers, ranked):
    return all([n in ranked for n in numbers])


# Each telling without a rank uses another one without a rank, so the way goes on until it meets itself.
def ring_among(used, ranked):
    way = []
    n = [k for k in used if k not in ranked][0]
    while n not in way:
        way.append(n)
        n = [k for k in used[n] if k not in ranked][0]
    return tuple(way[way.index(n):])


# Ranks are given from 0 upwards, all tellings of one rank at a time: so no way from telling to telling is walked, and
# a telling that uses none but ranked ones uses one of the rank just given.
def ranks(doc):
    used = uses(doc)
    ranked = {}
    rank = 0
    while len(ranked) < len(used):
        ready = [n for n in used if n not in ranked and all_ranked(used[n], ranked)]
        if not ready:
            raise InRing(ring_among(used, ranked))
        for n in ready:
            ranked[n] = rank
        rank = rank + 1
    return ranked
