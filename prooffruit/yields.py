"""The yield of a ground: the program that is taken out of it."""

from prooffruit.errors import NoYield
from prooffruit.grounds import grounds_of
from prooffruit.judge import MOST_PIECES, MOST_WITHIN, grounded
from prooffruit.kinds import NONE, NUMBER, kind_of
from prooffruit.order import in_order, popped
from prooffruit.rules import SAYS

NOTHING = ("nothing",)
NOUGHT = ("num", 0)


def least(kind):
    """The program of the least worth of a kind."""
    done = []
    todo = [(kind, False)]
    while todo:
        piece, is_through = todo.pop()
        word = piece[0]
        if len(piece) == 1:
            done.append(NOTHING if word == "none" else NOUGHT)
        elif not is_through:
            todo.append((piece, True))
            if word != "either":
                todo.append((piece[2], False))
            if word != "from":
                todo.append((piece[1], False))
        elif word == "pair":
            right = done.pop()
            done.append(("pair", done.pop(), right))
        elif word == "either":
            done.append(("this", done.pop(), piece[2]))
        else:
            done.append(("lets", "u", piece[1], done.pop()))
    return done[0]


class Fruit:
    """A ground that is gone through: its saying, the kind of that, and its yield."""

    def __init__(self, saying, kind, program):
        self.saying = saying
        self.kind = kind
        self.program = program


def yield_given(piece, _, kind):
    return ("known", piece[1], kind)


def yield_lets(piece, inner, _):
    kind = kind_of(piece[2])
    return inner[0].program if kind == NONE else ("lets", piece[1], kind, inner[0].program)


def yield_uses(_, inner, kind):
    rule, first = inner
    return rule.program if first.kind == NONE else ("call", rule.program, first.program)


def yield_both(_, inner, kind):
    left, right = inner
    if left.kind == NONE:
        return right.program
    return left.program if right.kind == NONE else ("pair", left.program, right.program)


def yield_half(piece, inner, _):
    both = inner[0]
    other = both.saying[2 if piece[0] == "first" else 1]
    return both.program if kind_of(other) == NONE else (piece[0], both.program)


def yield_this(_, inner, kind):
    return ("this", inner[0].program, kind[2])


def yield_that(_, inner, kind):
    return ("that", kind[1], inner[0].program)


def yield_cases(piece, inner, _):
    sides, left, right = inner
    return ("cases", sides.program, piece[2], left.program, piece[4], right.program)


def yield_for(piece, inner, _):
    return ("for", piece[1], inner[0].program)


def yield_at(piece, inner, _):
    return ("call", inner[0].program, piece[2])


def yield_such(piece, inner, _):
    return piece[2] if inner[0].kind == NONE else ("pair", piece[2], inner[0].program)


def yield_open(piece, inner, _):
    some, rest = inner
    # Of some A the kind is number just where that of A is none.
    if some.kind == NUMBER:
        return ("call", ("for", piece[2], rest.program), some.program)
    return ("parts", some.program, piece[2], piece[3], rest.program)


def yield_absurd(_, inner, kind):
    return least(kind)


def yield_put(_, inner, kind):
    return inner[1].program


def yield_climb(piece, inner, _):
    start, turn = inner
    return ("climb", start.program, piece[3], piece[4], turn.program, piece[6])


# Each tells the yield of a ground by its grounds, where the kind of its saying isn't none.
YIELDS = {
    "given": yield_given,
    "lets": yield_lets,
    "uses": yield_uses,
    "both": yield_both,
    "first": yield_half,
    "second": yield_half,
    "this": yield_this,
    "that": yield_that,
    "cases": yield_cases,
    "for": yield_for,
    "at": yield_at,
    "such": yield_such,
    "open": yield_open,
    "absurd": yield_absurd,
    "put": yield_put,
    "climb": yield_climb,
}


def fruit_of(piece, inner):
    """What comes of a piece of a right plain ground, by what came of its grounds."""
    says = SAYS[piece[0]]
    saying = says(piece, [fruit.saying for fruit in inner])
    kind = kind_of(saying)
    if kind == NONE:
        return Fruit(saying, kind, NOTHING)
    tell = YIELDS[piece[0]]
    return Fruit(saying, kind, tell(piece, inner, kind))


def yielded(ground):
    """The yield of a ground; NoGround, NoYield."""
    grounded(ground)
    rows, _ = in_order(ground, grounds_of, MOST_PIECES, MOST_WITHIN)
    twices = [place for piece, place in rows if piece[0] == "twice"]
    if len(twices) > 0:
        # A whole comes ahead of its grounds, these from the left: so its place is the least of all.
        raise NoYield(min(twices))
    done = []
    for piece, _ in rows:
        done.append(fruit_of(piece, popped(done, len(grounds_of(piece)))))
    return done[0].program
