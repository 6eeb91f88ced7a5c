"""The phrases that are told in a part, and the marks of rows and of documents."""

from gloss.errors import NoThing
from gloss.forms import forms
from gloss.machines import Machine
from gloss.scopes import GOVERNS_NOT, strength
from gloss.trees import find_with_home, rows_with_homes, things_with_homes


# The forms are made once for a document, since each of its parts asks for them. By rising numbers, so that winners
# rise as they come.
def tellings_of(doc):
    found = []
    for thing, path in things_with_homes(doc, (0,)):
        if thing[0] == "tell":
            found.append((thing[1], thing[2], path, forms(thing[3], thing[4])))
    return sorted(found)


def told_at(tellings, place):
    strengths = {}
    told = {}
    for number, scope, path, phrases in tellings:
        power = strength(scope, path, place)
        if power == GOVERNS_NOT:
            continue
        for phrase in phrases:
            if phrase not in told or power > strengths[phrase]:
                strengths[phrase] = power
                told[phrase] = (number,)
            elif power == strengths[phrase]:
                told[phrase] = told[phrase] + (number,)
    return told


def told_in(doc, n):
    found = find_with_home(doc, n)
    if found[0][0] != "part":
        raise NoThing(f"the thing with the number {n} is no part")
    return told_at(tellings_of(doc), found[1] + (n,))


# The machine is one of just the phrases that are told; it is handed in so that rows of one part share it.
def marks_by(machine, told, words):
    found = []
    at = 0
    while at < len(words):
        length = machine.longest(words, at)
        if length > 0:
            found.append((at, length, told[words[at:at + length]]))
        at = at + max(length, 1)
    return found


def marks_of(told, words):
    return marks_by(Machine(list(told)), told, words)


def marks(doc):
    tellings = tellings_of(doc)
    told = {}
    machines = {}
    found = []
    for number, words, path in rows_with_homes(doc):
        if path not in told:
            told[path] = told_at(tellings, path)
            machines[path] = Machine(list(told[path]))
        for start, length, winners in marks_by(machines[path], told[path], words):
            found.append((number, start, length, winners))
    return found
