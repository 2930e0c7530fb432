"""Names, terms and the worth of a term."""

from prooffruit.errors import NoNumber, TooMany
from prooffruit.pieces import FORMS, LEAVES, beneath, pieces_of

TOO_GREAT = 10 ** 60
LETTERS = "abcdefghijklmnopqrstuvwxyz"
MOST_LETTERS = 8
MOST_PIECES = 400
MOST_WITHIN = 60


def is_whole(thing):
    """Whether anything is a whole number: True and False are none."""
    return isinstance(thing, int) and not isinstance(thing, bool)


def is_word(thing):
    """Whether anything is a name, or a label."""
    if not isinstance(thing, str) or not 1 <= len(thing) <= MOST_LETTERS:
        return False
    return all(sign in LETTERS for sign in thing)


def is_leaf(piece, bounds):
    """Whether a tuple that begins with num, name or bound is a term; of bound, with a number below bounds."""
    if len(piece) != 2:
        return False
    word, part = piece
    if word == "name":
        return is_word(part)
    if not is_whole(part) or part < 0:
        return False
    return part < (TOO_GREAT if word == "num" else bounds)


def has_form(piece, kind, bounds):
    """Whether anything has a word that makes a term or a saying, as kind says, and as many parts as it takes."""
    if not isinstance(piece, tuple) or len(piece) == 0 or not isinstance(piece[0], str):
        return False
    if piece[0] in LEAVES:
        return kind == "term" and is_leaf(piece, bounds)
    if piece[0] not in FORMS:
        return False
    made, parts = FORMS[piece[0]]
    return made == kind and len(piece) == len(parts) + 1


def is_made(thing, kind, slack):
    """Whether anything is a term or a saying, as kind says, of a size that may be handed in.

    Loose bounds in it are out by less than slack.
    """
    pieces = 0
    todo = [(thing, kind, 0, 1)]
    while todo:
        piece, due, around, within = todo.pop()
        pieces += 1
        # Counted on the way: one tuple that stands in many places can make far more pieces than can be gone through.
        if pieces > MOST_PIECES or within > MOST_WITHIN:
            return False
        if not has_form(piece, due, around + slack):
            return False
        if piece[0] not in LEAVES:
            inner = beneath(piece, around)
            for part, part_due in zip(piece[1:], FORMS[piece[0]][1]):
                todo.append((part, part_due, inner, within + 1))
    return True


def is_term(thing):
    """Whether anything is a term as it is handed in: without bounds."""
    return is_made(thing, "term", 0)


def worth(term, numbers):
    """The worth of a term for numbers, a dict from names; NoNumber, TooMany."""
    done = []
    for piece, _ in pieces_of(term):
        word = piece[0]
        if word == "num":
            number = piece[1]
        elif word == "name":
            if piece[1] not in numbers:
                raise NoNumber(piece[1])
            number = numbers[piece[1]]
        elif word == "next":
            number = done.pop() + 1
        else:
            right = done.pop()
            left = done.pop()
            number = left + right if word == "plus" else left * right
        if number >= TOO_GREAT:
            raise TooMany()
        done.append(number)
    return done[0]
