"""Detours: where they stand in a ground, and what comes when one is taken away."""

from prooffruit.errors import NoNumber, NoPlace, TooMany
from prooffruit.exchange import Exchange, open_labels_of, open_names_of, rejoined, with_ground, with_term, words_of
from prooffruit.grounds import grounds_of
from prooffruit.judge import grounded
from prooffruit.pieces import changed
from prooffruit.sayings import put_in
from prooffruit.terms import is_whole, worth

NOUGHT = ("num", 0)
HERE = ("bound", 0)

# Of which words the first ground of a detour of each word is.
UNDONE = {
    "first": ("both",),
    "second": ("both",),
    "uses": ("lets",),
    "at": ("for",),
    "cases": ("this", "that"),
    "open": ("such",),
}

# The word of a saying that the ground of each word makes.
MAKES = {"both": "and", "this": "or", "that": "or", "lets": "if", "for": "all", "such": "some"}


def has_worth(term):
    """Whether a term is closed and no number comes in it that is too great."""
    try:
        worth(term, {})
    except (NoNumber, TooMany):
        return False
    return True


def is_detour(piece):
    """Whether a piece of a right ground is a detour."""
    if piece[0] == "climb":
        return piece[6][0] == "next" or has_worth(piece[6])
    if piece[0] == "put":
        return MAKES.get(piece[3][0]) == piece[2][0]
    return piece[0] in UNDONE and piece[1][0] in UNDONE[piece[0]]


def undo_half(piece):
    return piece[1][1 if piece[0] == "first" else 2]


def undo_uses(piece):
    rule = piece[1]
    return with_ground(rule[3], rule[1], piece[2])


def undo_at(piece):
    return with_term(piece[1][2], piece[1][1], piece[2])


def undo_cases(piece):
    made = piece[1]
    if made[0] == "this":
        return with_ground(piece[3], piece[2], made[1])
    return with_ground(piece[5], piece[4], made[2])


def undo_open(piece):
    _, _, term, shown = piece[1]
    return with_ground(with_term(piece[4], piece[2], term), piece[3], shown)


def turn_at(piece, term):
    """What the turn of a climb grounds at a term, from the same climb at that term."""
    _, body, start, name, label, turn, _ = piece
    return with_ground(with_term(turn, name, term), label, ("climb", body, start, name, label, turn, term))


def undo_climb(piece):
    body, term = piece[1], piece[6]
    if term == NOUGHT:
        return piece[2]
    if term[0] == "next":
        return turn_at(piece, term[1])
    if term[0] == "num":
        below = ("num", term[1] - 1)
        return ("put", ("reckoned", ("next", below), term), body, turn_at(piece, below))
    number = ("num", worth(term, {}))
    return ("put", ("reckoned", number, term), body, piece[:6] + (number,))


class Way:
    """What a put is led through: its equation with the saying of that, its body, the ground in which it puts."""

    def __init__(self, piece):
        _, self.equation, self.body, self.ground = piece
        saying, _ = grounded(self.equation)
        self.left = saying[1]
        self.right = saying[2]
        self.exchange = Exchange(open_names_of(self.equation), open_labels_of(self.equation), words_of(piece))

    def inside(self, body, ground):
        """The same put of another body into another ground."""
        return ("put", self.equation, body, ground)


def with_own(body, term):
    """Of a body beneath an all or some that is a body itself: that with a term put for its own number alone."""

    def put(piece, around):
        if piece[0] != "bound" or piece[1] < around:
            return piece
        return term if piece[1] == around else ("bound", around)

    return changed(body, put)


def with_outer(body, term):
    """Of a body beneath an all or some that is a body itself: that with a term put for the number further out."""
    return changed(body, lambda piece, around: term if piece == ("bound", around + 1) else piece)


def through_both(way):
    _, left, right = way.ground
    return ("both", way.inside(way.body[1], left), way.inside(way.body[2], right))


def through_this(way):
    return ("this", way.inside(way.body[1], way.ground[1]), put_in(way.body[2], way.right))


def through_that(way):
    return ("that", put_in(way.body[1], way.right), way.inside(way.body[2], way.ground[2]))


def through_lets(way):
    _, label, _, inner = way.ground
    other = way.exchange.closed(label, "label")
    given = ("given", other, put_in(way.body[1], way.right))
    turned = way.inside(("same", HERE, way.left), ("equal", way.left))
    back = ("put", turned, way.body[1], given)
    return ("lets", other, given[2], way.inside(way.body[2], with_ground(inner, label, back)))


def through_for(way):
    _, name, inner = way.ground
    other = ("name", way.exchange.closed(name, "name"))
    return ("for", other[1], way.inside(with_own(way.body[1], other), with_term(inner, name, other)))


def through_such(way):
    _, _, term, inner = way.ground
    return ("such", with_outer(way.body[1], way.right), term, way.inside(with_own(way.body[1], term), inner))


# Each leads a put into the grounds of a ground of a word.
THROUGH = {
    "both": through_both,
    "this": through_this,
    "that": through_that,
    "lets": through_lets,
    "for": through_for,
    "such": through_such,
}


def undo_put(piece):
    lead = THROUGH[piece[3][0]]
    return lead(Way(piece))


# Each tells what comes of a detour of a word.
UNDO = {
    "first": undo_half,
    "second": undo_half,
    "uses": undo_uses,
    "at": undo_at,
    "cases": undo_cases,
    "open": undo_open,
    "climb": undo_climb,
    "put": undo_put,
}


def places_of(ground):
    """A list of the places of all detours of a right ground, a whole's ahead of those in its grounds."""
    found = []
    todo = [(ground, ())]
    while todo:
        piece, place = todo.pop()
        if is_detour(piece):
            found.append(place)
        inner = grounds_of(piece)
        for at in range(len(inner) - 1, -1, -1):
            todo.append((inner[at], place + (at,)))
    return found


def piece_at(ground, place):
    """The piece of a ground at a place."""
    for at in place:
        ground = grounds_of(ground)[at]
    return ground


def undone(ground, place):
    """What comes of a right ground when the detour at a place is taken away."""
    piece = piece_at(ground, place)
    undo = UNDO[piece[0]]
    made = undo(piece)
    for many in range(len(place) - 1, -1, -1):
        outer = piece_at(ground, place[:many])
        inner = grounds_of(outer)
        inner[place[many]] = made
        made = rejoined(outer, inner)
    return made


def detours(ground):
    """A list of the places of all detours of a ground, a whole's ahead of those in its grounds; NoGround."""
    grounded(ground)
    return places_of(ground)


def is_place(thing):
    """Whether anything is a tuple of whole numbers."""
    return isinstance(thing, tuple) and all([is_whole(at) for at in thing])


def without(ground, place):
    """What comes of a ground when the detour at a place is taken away; NoGround, NoPlace."""
    grounded(ground)
    # Of another tuple it may be told that it is like a place: (True,) is like (1,).
    if not is_place(place) or place not in places_of(ground):
        raise NoPlace(place)
    return undone(ground, place)
