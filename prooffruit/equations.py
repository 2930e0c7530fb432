"""Grounds of closed equations, or of it that they aren't so."""

from prooffruit.terms import worth

NO = ("no",)
NOUGHT = ("num", 0)
HERE = ("bound", 0)
X = ("name", "x")


def first_step(more):
    """A ground of (if (same (plus more 0) 0) no), more a next: the sum is more itself, and so a next."""
    start = ("given", "w", ("same", ("plus", more, NOUGHT), NOUGHT))
    return ("lets", "w", start[2], ("never", ("put", ("sums", 0, more, NOUGHT), ("same", HERE, NOUGHT), start)))


def next_step(more):
    """A ground of (if (same (plus more (next x)) (next x)) no) from v of the like of x: both sides go down by one."""
    above = ("next", X)
    start = ("given", "w", ("same", ("plus", more, above), above))
    lower = ("down", ("put", ("sums", 1, more, X), ("same", HERE, above), start))
    rule = ("given", "v", ("if", ("same", ("plus", more, X), X), NO))
    return ("lets", "w", start[2], ("uses", rule, lower))


def never_more(more, term):
    """A ground of (if (same (plus more term) term) no), more a next: by a climb to the term."""
    body = ("if", ("same", ("plus", more, HERE), HERE), NO)
    return ("climb", body, first_step(more), "x", "v", next_step(more), term)


def turned(equation, left, right):
    """A ground of (same right left) by one of (same left right)."""
    return ("put", equation, ("same", HERE, left), ("equal", left))


def never_same(equation, numbers):
    """A ground of (if equation no), the equation closed; numbers are the worths of its sides, which are unlike."""
    left, right = equation[1], equation[2]
    one, other = ("num", numbers[0]), ("num", numbers[1])
    start = ("given", "u", equation)
    # First all is said of the numbers alone: so no saying on the way is greater than those of which it comes.
    half = ("put", ("reckoned", left, one), ("same", HERE, right), start)
    whole = ("put", ("reckoned", right, other), ("same", one, HERE), half)
    if one[1] < other[1]:
        whole = turned(whole, one, other)
        one, other = other, one
    more = ("next", ("num", one[1] - other[1] - 1))
    apart = ("put", ("reckoned", one, ("plus", more, other)), ("same", HERE, other), whole)
    return ("lets", "u", equation, ("uses", never_more(more, other), apart))


def settled_equation(equation):
    """Of a closed equation ("yes", a ground of it) or ("no", a ground of (if equation no)); TooMany."""
    left = worth(equation[1], {})
    right = worth(equation[2], {})
    if left == right:
        return "yes", ("reckoned", equation[1], equation[2])
    return "no", never_same(equation, (left, right))
