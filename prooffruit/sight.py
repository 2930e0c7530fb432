"""Which sayings can be seen, which are true, and what bears one out."""

from prooffruit.kinds import NONE, kind_of, sayings_of
from prooffruit.pieces import pieces_of
from prooffruit.runs import is_worth
from prooffruit.sayings import put_in
from prooffruit.terms import worth

FLAT = ("same", "no", "and", "if")


def is_flat(saying):
    """Whether a saying is flat: made by same, no, and, if alone."""
    todo = [saying]
    while todo:
        piece = todo.pop()
        if piece[0] not in FLAT:
            return False
        todo.extend(sayings_of(piece))
    return True


def is_seen(saying):
    """Whether a saying can be seen: made by and, or, some of what can be, or by if of a flat one and such a one."""
    todo = [saying]
    while todo:
        piece = todo.pop()
        if piece[0] == "all":
            return False
        if piece[0] == "if" and not is_flat(piece[1]):
            return False
        todo.extend(piece[2:] if piece[0] == "if" else sayings_of(piece))
    return True


def is_true(saying):
    """Whether a closed flat saying is true; TooMany. All of its equations are reckoned."""
    done = []
    for piece, _ in pieces_of(saying):
        if piece[0] == "same":
            left = worth(piece[1], {})
            done.append(left == worth(piece[2], {}))
        elif piece[0] == "no":
            done.append(False)
        elif piece[0] in ("and", "if"):
            right = done.pop()
            left = done.pop()
            done.append(left and right if piece[0] == "and" else right or not left)
    return done[0]


def worths_of_both(saying, told):
    """The worths of the two sides of an and, in a list, by its own: that of a side whose kind is none is None."""
    if kind_of(saying[1]) == NONE:
        return [None, told]
    return [told, None] if kind_of(saying[2]) == NONE else [told[0], told[1]]


def seen_in_some(saying, told):
    """What the number that is told of a some has to bear, and what bears it."""
    number, rest = (told, None) if kind_of(saying[1]) == NONE else told
    return put_in(saying[1], ("num", number)), rest


def bears(saying, thing):
    """Whether anything bears a closed seen saying; TooMany."""
    if not is_worth(kind_of(saying), thing):
        return False
    bearing = True
    todo = [(saying, thing)]
    while todo:
        piece, told = todo.pop()
        if is_flat(piece):
            # Also where something ahead isn't borne out all that stands there is gone through.
            bearing = is_true(piece) and bearing
        elif piece[0] == "and":
            left, right = worths_of_both(piece, told)
            todo.append((piece[2], right))
            todo.append((piece[1], left))
        elif piece[0] == "or":
            todo.append((piece[1 if told[0] == "this" else 2], told[1]))
        elif piece[0] == "some":
            todo.append(seen_in_some(piece, told))
        elif is_true(piece[1]):
            todo.append((piece[2], told))
    return bearing
