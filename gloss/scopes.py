"""The scopes of tellings, and how strongly a telling governs a part."""

SCOPES = ("all", "part", "here", "else")

STRENGTH_ELSE = 0
STRENGTH_ALL = 1
STRENGTH_HERE = 100
GOVERNS_NOT = -1


def strength(scope, told, place):
    if scope == "else":
        return STRENGTH_ELSE
    if scope == "all":
        return STRENGTH_ALL
    if scope == "here":
        return STRENGTH_HERE if place == told else GOVERNS_NOT
    # The home of a telling is the path of the part in which it stands straight: what lies within begins with it.
    if place[:len(told)] == told:
        return len(told) + 1
    return GOVERNS_NOT
