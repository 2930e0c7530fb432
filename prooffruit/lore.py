"""The lore: grounds of what is so for all numbers, of their halves, differences and rests."""

from prooffruit.lemmas import HERE, NOUGHT, by_parts, led_on, more, next_of_sum, next_to_sum, one_moved, parted, plus
from prooffruit.lemmas import same, sum_from_nought, sum_of_next, times, turned, without_nought
from prooffruit.sayings import put_in

D = ("name", "d")
E = ("name", "e")
F = ("name", "f")
M = ("name", "m")
N = ("name", "n")
Q = ("name", "q")
R = ("name", "r")
X = ("name", "x")
Y = ("name", "y")
Z = ("name", "z")


def half_of_next(body):
    """A ground of the body at the next one of m, by the given u of it at m: m is twice x, or one more."""
    some = ("given", "u", put_in(body, M))
    sides = ("given", "v", put_in(some[2][1], X))
    even = ("given", "e", sides[2][1])
    odd = ("given", "o", sides[2][2])
    due = put_in(body, more(M))[1]
    left = ("that", put_in(due, X)[1], led_on(more(M), [(even, more(HERE))]))
    back = turned(next_to_sum(X, X), plus(more(X), X))
    rows = [(odd, more(HERE)), (back, more(HERE)), (next_of_sum(more(X), X), HERE)]
    right = ("this", led_on(more(M), rows), put_in(due, more(X))[2])
    cases = ("cases", sides, "e", ("such", due, X, left), "o", ("such", due, more(X), right))
    return ("open", some, X[1], "v", cases)


def halves():
    """A ground of it that each number is twice some number, or one more."""
    double = plus(HERE, HERE)
    body = ("some", ("or", same(("bound", 1), double), same(("bound", 1), more(double))))
    due = put_in(body, NOUGHT)[1]
    start = ("this", ("reckoned", NOUGHT, plus(NOUGHT, NOUGHT)), put_in(due, NOUGHT)[2])
    climb = ("climb", body, ("such", due, NOUGHT, start), M[1], "u", half_of_next(body), N)
    return ("for", N[1], climb)


def less_left(sides):
    """A ground of the sides of x and next y, by the given v of x + z = y."""
    given = ("given", "v", same(plus(X, Z), Y))
    rows = [(sum_of_next(X, Z), HERE), (given, more(HERE))]
    return ("this", ("such", sides[1][1], more(Z), led_on(plus(X, more(Z)), rows)), sides[2])


def less_right(sides):
    """A ground of the sides of x and next y, by the given w of y + z = x: z is 0, or the next one of m."""
    given = ("given", "w", same(plus(Y, Z), X))
    alike = without_nought(given, Y, Z, X, ("given", "i", same(Z, NOUGHT)))
    rows = [(sum_of_next(X, NOUGHT), HERE), (("sums", 0, X, NOUGHT), more(HERE)), (turned(alike, Y), more(HERE))]
    left = ("this", ("such", sides[1][1], more(NOUGHT), led_on(plus(X, more(NOUGHT)), rows)), sides[2])
    moved = one_moved(given, (Y, Z, X), M, ("given", "j", same(Z, more(M))))
    right = ("that", sides[1], ("such", sides[2][1], M, moved))
    return by_parts(Z, ("i", left), (M[1], "j", right))


def less():
    """A ground of it that of all two numbers the one and some number is the other, or that one and some is the one."""
    body = ("or", ("some", same(plus(X, HERE), ("bound", 1))), ("some", same(plus(("bound", 1), HERE), X)))
    due = put_in(body, NOUGHT)
    start = ("that", due[1], ("such", due[2][1], X, sum_from_nought(X)))
    sides = put_in(body, more(Y))
    given = ("given", "u", put_in(body, Y))
    left = ("open", ("given", "k", given[2][1]), Z[1], "v", less_left(sides))
    right = ("open", ("given", "l", given[2][2]), Z[1], "w", less_right(sides))
    turn = ("cases", given, "k", left, "l", right)
    return ("for", X[1], ("for", N[1], ("climb", body, start, Y[1], "u", turn, N)))


def divided(body, quotient, over, equation, up):
    """A ground of a body of division, by the quotient, what is left over, and grounds of what is so of them."""
    inner = put_in(body[1], quotient)
    shown = ("such", put_in(inner[1], over)[2][1], up[0], up[1])
    return ("such", body[1], quotient, ("such", inner[1], over, ("both", equation, shown)))


def rest_of_nought(body):
    """A ground of the body at 0: 0 times and 0, which is d less than d."""
    product = times(more(D), NOUGHT)
    rows = [(("sums", 0, product, NOUGHT), HERE), (("sums", 2, more(D), NOUGHT), HERE)]
    equation = turned(led_on(plus(product, NOUGHT), rows), plus(product, NOUGHT))
    return divided(put_in(body, NOUGHT), NOUGHT, NOUGHT, equation, (D, sum_from_nought(D)))


def rest_at_most(body, equation, up):
    """A ground of the body at the next one of m, whose rest r is d: one time more, and 0."""
    product = times(more(D), Q)
    whole = times(more(D), more(Q))
    alike = without_nought(up, R, E, D, ("given", "i", same(E, NOUGHT)))
    one_more = turned(("sums", 3, more(D), Q), whole)
    and_nought = turned(("sums", 0, whole, NOUGHT), plus(whole, NOUGHT))
    rows = [(equation, more(HERE)), (alike, more(plus(product, HERE))), (next_of_sum(product, D), HERE),
            (one_more, HERE), (and_nought, HERE)]
    return divided(put_in(body, more(M)), more(Q), NOUGHT, led_on(more(M), rows), (D, sum_from_nought(D)))


def rest_below(body, equation, up):
    """A ground of the body at the next one of m, whose rest r is less than d: as many times, and the next one of r."""
    rows = [(equation, more(HERE)), (next_of_sum(times(more(D), Q), R), HERE)]
    moved = one_moved(up, (R, E, D), F, ("given", "j", same(E, more(F))))
    return divided(put_in(body, more(M)), Q, more(R), led_on(more(M), rows), (F, moved))


def rest():
    """A ground of division: each number is some times the next one of d, and a rest that some number makes d."""
    divides = same(("bound", 2), plus(times(more(D), ("bound", 1)), HERE))
    body = ("some", ("some", ("and", divides, ("some", same(plus(("bound", 1), HERE), D)))))
    some = ("given", "u", put_in(body, M))
    inner = ("given", "v", put_in(some[2][1], Q))
    both = ("given", "w", put_in(inner[2][1], R))
    equation = ("first", both)
    up = ("given", "k", same(plus(R, E), D))
    cases = by_parts(E, ("i", rest_at_most(body, equation, up)), (F[1], "j", rest_below(body, equation, up)))
    turn = ("open", inner, R[1], "w", ("open", ("second", both), E[1], "k", cases))
    climb = ("climb", body, rest_of_nought(body), M[1], "u", ("open", some, Q[1], "v", turn), N)
    return ("for", N[1], ("for", D[1], climb))


def lore():
    """A dict from four texts to plain grounds, without givens and names."""
    return {"parted": ("for", N[1], parted(N)), "halves": halves(), "less": less(), "rest": rest()}
