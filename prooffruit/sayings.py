"""Sayings and bodies, the names in them, and what is put into them or taken away."""

from prooffruit.pieces import changed, pieces_of
from prooffruit.terms import is_made


def is_saying(thing):
    """Whether anything is a saying as it is handed in: without loose bounds."""
    return is_made(thing, "saying", 0)


def is_body(thing):
    """Whether anything is a body as it is handed in: without loose bounds but those that are out by 0."""
    return is_made(thing, "saying", 1)


def names_in(thing):
    """A list of the names that stand in a term, a saying or a body, each once, rising."""
    found = set()
    for piece, _ in pieces_of(thing):
        if piece[0] == "name":
            found.add(piece[1])
    return sorted(found)


def put_in(body, term):
    """The saying in which a term stands in the place of each bound of a body that is out by 0."""
    return changed(body, lambda piece, around: term if piece == ("bound", around) else piece)


def taken(saying, name):
    """The body in which a bound that is out by 0 stands wherever a name stands in a saying."""
    return changed(saying, lambda piece, around: ("bound", around) if piece == ("name", name) else piece)


def put_for(saying, name, term):
    """The saying in which a term stands wherever a name stands in a saying."""
    return changed(saying, lambda piece, around: term if piece == ("name", name) else piece)
