"""Grounds of sayings of sums, each at terms: of them those of the lore are put together.

Names and labels that are closed here are of two letters and more: terms that are handed in have names of one letter.
"""

NOUGHT = ("num", 0)
HERE = ("bound", 0)


def same(left, right):
    """The equation of two terms."""
    return ("same", left, right)


def more(term):
    """The next one of a term."""
    return ("next", term)


def plus(left, right):
    """The sum of two terms."""
    return ("plus", left, right)


def times(left, right):
    """The product of two terms."""
    return ("times", left, right)


def turned(equation, left):
    """A ground of (same right left) by one of (same left right)."""
    return ("put", equation, same(HERE, left), ("equal", left))


def led_on(left, rows):
    """A ground of (same left last): rows tell grounds of equations, each with a body of the term that it leads on."""
    ground = ("equal", left)
    for equation, body in rows:
        ground = ("put", equation, same(left, body), ground)
    return ground


def sum_of_next(left, right):
    """A ground of left + next right = next (left + right)."""
    return ("sums", 1, left, right)


def next_of_sum(left, right):
    """A ground of next (left + right) = left + next right."""
    return turned(sum_of_next(left, right), plus(left, more(right)))


def sum_from_nought(term):
    """A ground of 0 + term = term."""
    name = ("name", "xx")
    last = ("given", "uu", same(plus(NOUGHT, name), name))
    turn = led_on(plus(NOUGHT, more(name)), [(sum_of_next(NOUGHT, name), HERE), (last, more(HERE))])
    return ("climb", same(plus(NOUGHT, HERE), HERE), ("sums", 0, NOUGHT, NOUGHT), name[1], last[1], turn, term)


def next_to_sum(left, right):
    """A ground of next left + right = next (left + right)."""
    name = ("name", "xx")
    body = same(plus(more(left), HERE), more(plus(left, HERE)))
    back = turned(("sums", 0, left, NOUGHT), plus(left, NOUGHT))
    start = led_on(plus(more(left), NOUGHT), [(("sums", 0, more(left), NOUGHT), HERE), (back, more(HERE))])
    last = ("given", "uu", same(plus(more(left), name), more(plus(left, name))))
    rows = [(sum_of_next(more(left), name), HERE), (last, more(HERE)), (next_of_sum(left, name), more(HERE))]
    turn = led_on(plus(more(left), more(name)), rows)
    return ("climb", body, start, name[1], last[1], turn, right)


def parted(term):
    """A ground of it that a term is 0 or the next one of some number."""
    name = ("name", "xx")
    body = ("or", same(HERE, NOUGHT), ("some", same(("bound", 1), more(HERE))))
    start = ("this", ("equal", NOUGHT), ("some", same(NOUGHT, more(HERE))))
    next_one = ("such", same(more(name), more(HERE)), name, ("equal", more(name)))
    turn = ("that", same(more(name), NOUGHT), next_one)
    return ("climb", body, start, name[1], "uu", turn, term)


def by_parts(term, at_nought, at_next):
    """A ground by parts of a term: of what is shown where it is 0, and where it is the next one of some number.

    The first is told by the label of the equation, the second by a name, a label, and each with a ground.
    """
    some = ("given", "pp", ("some", same(term, more(HERE))))
    label, left = at_nought
    name, next_label, right = at_next
    return ("cases", parted(term), label, left, some[1], ("open", some, name, next_label, right))


def without_nought(equation, left, term, right, nought):
    """A ground of left = right by one of left + term = right, where another one tells that the term is 0."""
    whole = ("put", nought, same(plus(left, HERE), right), equation)
    return ("put", ("sums", 0, left, NOUGHT), same(HERE, right), whole)


def one_moved(equation, terms, below, next_one):
    """A ground of next left + below = right by one of left + term = right, where the term is the next one of below."""
    left, _, right = terms
    whole = ("put", next_one, same(plus(left, HERE), right), equation)
    rows = [(next_to_sum(left, below), HERE), (next_of_sum(left, below), HERE), (whole, HERE)]
    return led_on(plus(more(left), below), rows)
