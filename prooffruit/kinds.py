"""Kinds, and the kind of a saying."""

from prooffruit.pieces import FORMS

NONE = ("none",)
NUMBER = ("number",)
MOST_WITHIN = 100

# The words with two kinds behind them; only in an either may one of them be none.
PAIRED = ("pair", "from", "either")


def has_form(piece):
    """Whether anything has a word of a kind and as many parts as it takes, none of them none but in an either."""
    if not isinstance(piece, tuple):
        return False
    if len(piece) == 1:
        return piece in (NONE, NUMBER)
    if len(piece) != 3 or piece[0] not in PAIRED:
        return False
    return piece[0] == "either" or NONE not in piece


def is_kind(thing):
    """Whether anything is a kind, at most a hundred within one another."""
    todo = [(thing, 1, False)]
    while todo:
        piece, within, is_half_through = todo.pop()
        if is_half_through:
            # One tuple that stands twice, at each of many places within one another, is gone into but once: else it
            # never ends. The left one is a kind here; so what is like it is one, too.
            if piece[1] != piece[2]:
                todo.append((piece[2], within + 1, False))
        elif within > MOST_WITHIN or not has_form(piece):
            return False
        elif len(piece) == 3:
            todo.append((piece, within, True))
            todo.append((piece[1], within + 1, False))
    return True


def has_from(kind):
    """Whether a from stands in a kind."""
    todo = [kind]
    while todo:
        piece = todo.pop()
        if piece[0] == "from":
            return True
        # As above, of two that are alike one is enough.
        todo.extend(piece[1:2] if piece[1:2] == piece[2:] else piece[1:])
    return False


def paired(left, right):
    """The kind of both: the one where the other is none."""
    if left == NONE:
        return right
    return left if right == NONE else ("pair", left, right)


def given_from(left, right):
    """The kind of what leads from one to another: the other's where the one is none, none where the other is."""
    return right if NONE in (left, right) else ("from", left, right)


def joined(word, parts):
    """The kind of a saying of a word, by those of its parts."""
    if word == "and":
        return paired(parts[0], parts[1])
    if word == "or":
        return ("either", parts[0], parts[1])
    if word == "if":
        return given_from(parts[0], parts[1])
    if word == "all":
        return given_from(NUMBER, parts[0])
    return paired(NUMBER, parts[0])


def sayings_of(saying):
    """A list of the sayings that stand in a saying as its parts."""
    return [part for part, what in zip(saying[1:], FORMS[saying[0]][1]) if what == "saying"]


def kind_of(saying):
    """The kind of a saying."""
    done = []
    todo = [(saying, False)]
    while todo:
        piece, is_through = todo.pop()
        inner = sayings_of(piece)
        if len(inner) == 0:
            done.append(NONE)
        elif is_through:
            right = done.pop()
            parts = [right] if len(inner) == 1 else [done.pop(), right]
            done.append(joined(piece[0], parts))
        else:
            todo.append((piece, True))
            for part in reversed(inner):
                todo.append((part, False))
    return done[0]
