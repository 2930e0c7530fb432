"""What a ground of each word grounds, by what its grounds ground, and for which sayings it closes labels."""

from prooffruit.sayings import put_in, taken

NO = ("no",)
NOUGHT = ("num", 0)


def says_given(piece, _):
    return piece[2]


def says_lets(piece, sayings):
    return ("if", piece[2], sayings[0])


def says_uses(_, sayings):
    rule, first = sayings
    return rule[2] if rule[0] == "if" and rule[1] == first else None


def says_both(_, sayings):
    return ("and", sayings[0], sayings[1])


def says_first(_, sayings):
    return sayings[0][1] if sayings[0][0] == "and" else None


def says_second(_, sayings):
    return sayings[0][2] if sayings[0][0] == "and" else None


def says_this(piece, sayings):
    return ("or", sayings[0], piece[2])


def says_that(piece, sayings):
    return ("or", piece[1], sayings[0])


def says_cases(_, sayings):
    return sayings[1] if sayings[0][0] == "or" and sayings[1] == sayings[2] else None


def says_for(piece, sayings):
    return ("all", taken(sayings[0], piece[1]))


def says_at(piece, sayings):
    return put_in(sayings[0][1], piece[2]) if sayings[0][0] == "all" else None


def says_such(piece, sayings):
    return ("some", piece[1]) if sayings[0] == put_in(piece[1], piece[2]) else None


def says_open(_, sayings):
    return sayings[1] if sayings[0][0] == "some" else None


def says_absurd(piece, sayings):
    return piece[2] if sayings[0] == NO else None


def says_equal(piece, _):
    return ("same", piece[1], piece[1])


def says_put(piece, sayings):
    equation, other = sayings
    if equation[0] != "same" or other != put_in(piece[2], equation[1]):
        return None
    return put_in(piece[2], equation[2])


def says_reckoned(piece, _):
    return ("same", piece[1], piece[2])


def says_sums(piece, _):
    which, term, other = piece[1:]
    if which == 0:
        return ("same", ("plus", term, NOUGHT), term)
    if which == 2:
        return ("same", ("times", term, NOUGHT), NOUGHT)
    if which == 1:
        return ("same", ("plus", term, ("next", other)), ("next", ("plus", term, other)))
    return ("same", ("times", term, ("next", other)), ("plus", ("times", term, other), term))


def says_down(_, sayings):
    equation = sayings[0]
    if equation[0] != "same" or equation[1][0] != "next" or equation[2][0] != "next":
        return None
    return ("same", equation[1][1], equation[2][1])


def says_never(_, sayings):
    equation = sayings[0]
    if equation[0] != "same" or equation[1][0] != "next" or equation[2] != NOUGHT:
        return None
    return NO


def says_climb(piece, sayings):
    body, name, term = piece[1], piece[3], piece[6]
    if sayings[0] != put_in(body, NOUGHT) or sayings[1] != put_in(body, ("next", ("name", name))):
        return None
    return put_in(body, term)


def says_twice(_, sayings):
    saying = sayings[0]
    if saying[0] != "if" or saying[2] != NO or saying[1][0] != "if" or saying[1][2] != NO:
        return None
    return saying[1][1]


# Each tells the saying of a ground by the sayings of its grounds, or None where these aren't as they have to be.
SAYS = {
    "given": says_given,
    "lets": says_lets,
    "uses": says_uses,
    "both": says_both,
    "first": says_first,
    "second": says_second,
    "this": says_this,
    "that": says_that,
    "cases": says_cases,
    "for": says_for,
    "at": says_at,
    "such": says_such,
    "open": says_open,
    "absurd": says_absurd,
    "equal": says_equal,
    "put": says_put,
    "reckoned": says_reckoned,
    "sums": says_sums,
    "down": says_down,
    "never": says_never,
    "climb": says_climb,
    "twice": says_twice,
}


def closed_sayings(piece, sayings):
    """For each ground of a piece, in their order: the saying for which it closes a label in it, or None."""
    word = piece[0]
    if word == "lets":
        return [piece[2]]
    if word == "cases":
        return [None, sayings[0][1], sayings[0][2]]
    if word == "open":
        return [None, put_in(sayings[0][1], ("name", piece[2]))]
    if word == "climb":
        return [None, put_in(piece[1], ("name", piece[3]))]
    return [None] * len(sayings)
