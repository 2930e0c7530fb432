"""The pieces of terms and sayings, and the one way in which all of them are gone through.

Nothing here calls itself: what is told may stand further within one another than
what is handed in, and must not run out of Python's calls.
"""

# The words whose part is no piece.
LEAVES = ("num", "name", "bound")

# The words beneath which a bound can stand for a number.
BINDERS = ("all", "some")

# Each word whose parts are pieces: what it makes, and what each of its parts is.
FORMS = {
    "next": ("term", ("term",)),
    "plus": ("term", ("term", "term")),
    "times": ("term", ("term", "term")),
    "same": ("saying", ("term", "term")),
    "no": ("saying", ()),
    "and": ("saying", ("saying", "saying")),
    "or": ("saying", ("saying", "saying")),
    "if": ("saying", ("saying", "saying")),
    "all": ("saying", ("saying",)),
    "some": ("saying", ("saying",)),
}


def beneath(piece, around):
    """How many all and some stand around the parts of a piece that has so many around itself."""
    return around + 1 if piece[0] in BINDERS else around


def pieces_of(thing):
    """A list of (piece, how many all and some stand around it), parts ahead of the whole, from the left."""
    found = []
    todo = [(thing, 0)]
    while todo:
        piece, around = todo.pop()
        found.append((piece, around))
        if piece[0] not in LEAVES:
            inner = beneath(piece, around)
            for part in piece[1:]:
                todo.append((part, inner))
    # The whole was met ahead of its parts, and these from the right.
    found.reverse()
    return found


def changed(thing, leaf):
    """The thing with leaf(piece, how many all and some stand around it) in the place of each num, name and bound."""
    done = []
    for piece, around in pieces_of(thing):
        if piece[0] in LEAVES:
            done.append(leaf(piece, around))
        else:
            first = len(done) - len(piece) + 1
            parts = done[first:]
            del done[first:]
            done.append((piece[0], *parts))
    return done[0]
