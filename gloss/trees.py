"""Documents and the things that stand in them."""

from gloss.errors import NoPlace, NoThing


# A thing does not hold its home, so pairs (thing, home) are gathered on the way down.
def things_with_homes(part, path):
    found = []
    for thing in part[2]:
        found.append((thing, path))
        if thing[0] == "part":
            found.extend(things_with_homes(thing, path + (thing[1],)))
    return found


def things_of(doc):
    return [pair[0] for pair in things_with_homes(doc, (0,))]


# Say rows and meanings alike, as tuples (number, words, home), in the order of things.
def rows_with_homes(doc):
    found = []
    for thing, path in things_with_homes(doc, (0,)):
        if thing[0] == "say":
            found.append((thing[1], thing[2], path))
        elif thing[0] == "tell":
            found.append((thing[1], thing[5], path))
    return found


def tellings_numbers(doc):
    return [thing[1] for thing in things_of(doc) if thing[0] == "tell"]


def find_with_home(doc, n):
    if n == 0:
        return (doc, ())
    for pair in things_with_homes(doc, (0,)):
        if pair[0][1] == n:
            return pair
    raise NoThing(f"no thing has the number {n}")


def find_thing(doc, n):
    return find_with_home(doc, n)[0]


def home(doc, n):
    return find_with_home(doc, n)[1]


def refuse_without_place(doc, n):
    if n == 0:
        raise NoThing("the document itself stands in no part")
    find_thing(doc, n)


# The others are a tuple, so that one walk serves for taking out (none of them) and for swapping (one).
def replaced(part, n, others):
    things = []
    for thing in part[2]:
        if thing[1] == n:
            things.extend(others)
        elif thing[0] == "part":
            things.append(replaced(thing, n, others))
        else:
            things.append(thing)
    return ("part", part[1], tuple(things))


def taken(doc, n):
    refuse_without_place(doc, n)
    return replaced(doc, n, ())


def swapped(doc, n, thing):
    refuse_without_place(doc, n)
    return replaced(doc, n, (thing,))


def placed(doc, into, at, thing):
    part = find_thing(doc, into)
    if part[0] != "part":
        raise NoThing(f"the thing with the number {into} is no part")
    things = part[2]
    if at < 0 or at > len(things):
        raise NoPlace(f"there is no place {at} in the part with the number {into}")
    new_part = ("part", into, things[:at] + (thing,) + things[at:])
    if into == 0:
        return new_part
    return replaced(doc, into, (new_part,))
