"""Grounds of flat sayings that are settled, and of seen ones that a worth bears out, handed in or sought."""

from prooffruit.equations import settled_equation
from prooffruit.errors import NoWorth
from prooffruit.pieces import pieces_of
from prooffruit.search import first_worth
from prooffruit.sight import bears, is_flat, is_true, seen_in_some, worths_of_both

NO = ("no",)


def settled_no():
    """That no isn't so: (if no no)."""
    return "no", ("lets", "u", NO, ("given", "u", NO))


def settled_and(saying, left, right):
    """Whether an and is so, by both sides."""
    if left[0] == "yes" and right[0] == "yes":
        return "yes", ("both", left[1], right[1])
    side, against = ("first", left[1]) if left[0] == "no" else ("second", right[1])
    return "no", ("lets", "u", saying, ("uses", against, (side, ("given", "u", saying))))


def settled_if(saying, left, right):
    """Whether an if is so, by both sides."""
    if right[0] == "yes":
        return "yes", ("lets", "u", saying[1], right[1])
    if left[0] == "no":
        absurd = ("uses", left[1], ("given", "u", saying[1]))
        return "yes", ("lets", "u", saying[1], ("absurd", absurd, saying[2]))
    rule = ("given", "u", saying)
    return "no", ("lets", "u", saying, ("uses", right[1], ("uses", rule, left[1])))


def settled(saying):
    """Of a closed flat saying A ("yes", a ground of it) or ("no", a ground of (if A no)); TooMany."""
    done = []
    for piece, _ in pieces_of(saying):
        if piece[0] == "same":
            done.append(settled_equation(piece))
        elif piece[0] == "no":
            done.append(settled_no())
        elif piece[0] in ("and", "if"):
            right = done.pop()
            left = done.pop()
            join = settled_and if piece[0] == "and" else settled_if
            done.append(join(piece, left, right))
    return done[0]


def shown_against(saying, told):
    """A ground of an if whose first isn't true: whatever its second's kind has as a worth, comes of that."""
    absurd = ("uses", settled(saying[1])[1], ("given", "u", saying[1]))
    return ("lets", "u", saying[1], ("uses", ("lets", "v", NO, shown(saying[2], told, True)), absurd))


def shown(saying, told, is_forced):
    """A ground of a closed seen saying, whose yield's worth is told: this bears it, or a given of no by v is open."""
    if is_flat(saying):
        return ("absurd", ("given", "v", NO), saying) if is_forced else settled(saying)[1]
    if saying[0] == "and":
        left, right = worths_of_both(saying, told)
        return ("both", shown(saying[1], left, is_forced), shown(saying[2], right, is_forced))
    if saying[0] == "or":
        side, rest = told
        if side == "this":
            return ("this", shown(saying[1], rest, is_forced), saying[2])
        return ("that", saying[1], shown(saying[2], rest, is_forced))
    if saying[0] == "some":
        inner, rest = seen_in_some(saying, told)
        number = told if rest is None else told[0]
        return ("such", saying[1], ("num", number), shown(inner, rest, is_forced))
    if is_forced or is_true(saying[1]):
        return ("lets", "u", saying[1], shown(saying[2], told, is_forced))
    return shown_against(saying, told)


def shown_by(saying, worth):
    """A ground of a closed seen saying, whose yield's worth is one that bears it; TooMany, NoWorth."""
    if not bears(saying, worth):
        raise NoWorth(worth)
    return shown(saying, worth, False)


def sought(saying, *, most=10):
    """A ground of a closed seen saying, in whose yield's worth no number is above the most, or None; TooMany."""
    found = first_worth(saying, {}, most)
    if len(found) == 0:
        return None
    return shown(saying, found[0], False)
