"""What a ground grounds and from which givens, and why anything else is no ground."""

from prooffruit.errors import NoGround, NoNumber, TooMany
from prooffruit.grounds import PARTS, closed_words, grounds_of, parts_of
from prooffruit.order import in_order, popped
from prooffruit.rules import SAYS, closed_sayings
from prooffruit.sayings import is_body, is_saying, names_in
from prooffruit.terms import is_term, is_whole, is_word, worth

MOST_PIECES = 2000
MOST_WITHIN = 100

# How many equations of sums there are, numbered from 0.
MANY_SUMS = 4


def is_part(part, what):
    """Whether anything is what a part of a ground has to be; a ground is gone into by itself."""
    if what == "ground":
        return True
    if what == "saying":
        return is_saying(part)
    if what == "body":
        return is_body(part)
    if what == "term":
        return is_term(part)
    if what == "which":
        return is_which(part)
    return is_word(part)


def is_which(thing):
    """Whether anything is one of the numbers of sums."""
    return is_whole(thing) and 0 <= thing < MANY_SUMS


def has_word(thing):
    """Whether anything is a tuple that begins with the word of a ground."""
    if not isinstance(thing, tuple) or len(thing) == 0 or not isinstance(thing[0], str):
        return False
    return thing[0] in PARTS


def inner_of(thing):
    """A list of the grounds of anything, whatever they are, or None where its form isn't that of a ground."""
    if not has_word(thing):
        return None
    parts = parts_of(thing)
    if len(thing) != len(parts) + 1:
        return None
    for part, what in zip(thing[1:], parts):
        if not is_part(part, what):
            return None
    return grounds_of(thing)


def merged(piece, place, sayings, inner):
    """The open givens of a piece, by those of its grounds: a dict from labels to (saying, the names in it)."""
    opens = {}
    for (_, label), due, held in zip(closed_words(piece), closed_sayings(piece, sayings), inner):
        for word in held:
            if word == label:
                fits = held[word][0] == due
            else:
                fits = word not in opens or opens[word][0] == held[word][0]
                opens[word] = held[word]
            if not fits:
                raise NoGround(place, "given")
    return opens


def names_around(piece, sayings):
    """A list of the names that a name which a piece closes may not be, but for those in open givens."""
    if piece[0] == "open":
        return names_in(sayings[0]) + names_in(sayings[1])
    return names_in(piece[1]) if piece[0] == "climb" else []


def is_loose_name(piece, sayings, inner):
    """Whether a name that a piece closes stands where it may not stand."""
    for (name, label), held in zip(closed_words(piece), inner):
        if name is not None:
            if name in names_around(piece, sayings):
                return True
            for word in held:
                if word != label and name in held[word][1]:
                    return True
    return False


def is_one_worth(left, right):
    """Whether two terms are closed and have one worth."""
    try:
        return worth(left, {}) == worth(right, {})
    except (NoNumber, TooMany):
        return False


def told_of(piece, place, inner):
    """The saying and the open givens of a piece of right form, by those of its grounds."""
    sayings = [saying for saying, _ in inner]
    says = SAYS[piece[0]]
    saying = says(piece, sayings)
    if saying is None:
        raise NoGround(place, "saying")
    # What right parts make is a saying: it can't be none but by its size.
    if not is_saying(saying):
        raise NoGround(place, "size")
    if piece[0] == "given":
        return saying, {piece[1]: (saying, names_in(saying))}
    held = [opens for _, opens in inner]
    opens = merged(piece, place, sayings, held)
    if is_loose_name(piece, sayings, held):
        raise NoGround(place, "name")
    if piece[0] == "reckoned" and not is_one_worth(piece[1], piece[2]):
        raise NoGround(place, "number")
    return saying, opens


def grounded(thing):
    """What anything grounds: (saying, givens), givens a tuple of (label, saying) by rising labels; NoGround."""
    rows, fault = in_order(thing, inner_of, MOST_PIECES, MOST_WITHIN)
    done = []
    for piece, place in rows:
        done.append(told_of(piece, place, popped(done, len(grounds_of(piece)))))
    if fault is not None:
        raise NoGround(fault, "form")
    saying, opens = done[0]
    return saying, tuple([(label, opens[label][0]) for label in sorted(opens)])
