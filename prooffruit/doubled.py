"""Sayings and grounds doubled by a wish: so grounds by contraries become plain ones."""

from prooffruit.exchange import Exchange, exchanged, rejoined, words_of
from prooffruit.grounds import closed_words, grounds_of
from prooffruit.judge import MOST_PIECES, MOST_WITHIN, grounded
from prooffruit.order import in_order, popped
from prooffruit.rules import SAYS
from prooffruit.sayings import names_in, put_in
from prooffruit.wishes import Wish, carried, closing, forks, is_liftable, led, lifted, reached, stable_by


class Twin:
    """A right ground that is gone through: its saying, what comes of it doubled, what it stands on, whether plain."""

    def __init__(self, saying, ground, labels, plain):
        self.saying = saying
        self.ground = ground
        self.labels = labels
        self.plain = plain

    def is_own(self):
        """Whether the ground that was doubled may stand as it is: plain, and without givens."""
        return self.plain and len(self.labels) == 0


def twin_given(piece, _, saying, wish):
    return ("given", piece[1], wish.doubled(saying))


def twin_lets(piece, inner, _, wish):
    return ("lets", piece[1], wish.doubled(piece[2]), inner[0].ground)


def twin_same_word(piece, inner, _, wish):
    return rejoined(piece, [part.ground for part in inner])


def twin_side(piece, inner, saying, wish):
    rule = wish.given(wish.doubled(saying)[1])
    half = "first" if piece[0] == "this" else "second"
    return closing(rule, ("uses", (half, rule), inner[0].ground))


def twin_cases(piece, inner, saying, wish):
    sides, left, right = inner

    def make(steps):
        one = ("lets", piece[2], wish.doubled(sides.saying[1]), carried(left.ground, steps))
        other = ("lets", piece[4], wish.doubled(sides.saying[2]), carried(right.ground, steps))
        return ("uses", sides.ground, ("both", one, other))

    return led(saying, wish, make)


def twin_such(piece, inner, saying, wish):
    rule = wish.given(wish.doubled(saying)[1])
    return closing(rule, ("uses", ("at", rule, piece[2]), inner[0].ground))


def twin_open(piece, inner, saying, wish):
    some, rest = inner
    known = wish.doubled(put_in(some.saying[1], ("name", piece[2])))

    def make(steps):
        return ("uses", some.ground, ("for", piece[2], ("lets", piece[3], known, carried(rest.ground, steps))))

    return led(saying, wish, make)


def twin_absurd(_, inner, saying, wish):
    ground = inner[0].ground
    if not forks(saying):
        return reached(saying, wish, [], lambda steps: ground)
    given = wish.given(wish.saying)
    return ("uses", closing(given, reached(saying, wish, [], lambda steps: given)), ground)


def twin_equation(piece, _, saying, wish):
    return lifted(saying, piece, wish)


def twin_put(piece, inner, saying, wish):
    equation, other = inner
    body = wish.doubled(piece[2])
    if equation.is_own():
        return ("put", piece[1], body, other.ground)
    given = wish.given(equation.saying)

    def make(steps):
        return ("uses", equation.ground, closing(given, carried(("put", given, body, other.ground), steps)))

    return led(saying, wish, make)


def twin_down(_, inner, saying, wish):
    rule = wish.given(wish.from_it(saying))
    given = wish.given(inner[0].saying)
    return closing(rule, ("uses", inner[0].ground, closing(given, ("uses", rule, ("down", given)))))


def twin_never(_, inner, saying, wish):
    given = wish.given(inner[0].saying)
    return ("uses", inner[0].ground, closing(given, ("absurd", ("never", given), wish.saying)))


def twin_climb(piece, inner, _, wish):
    start, turn = inner
    _, body, _, name, label, _, term = piece
    return ("climb", wish.doubled(body), start.ground, name, label, turn.ground, term)


def twin_twice(_, inner, saying, wish):
    given = wish.given(wish.doubled(saying))
    return led(saying, wish, lambda steps: ("uses", inner[0].ground, closing(given, carried(given, steps))))


# Each tells a plain ground of the saying of a ground doubled, by its grounds doubled.
TWINS = {
    "given": twin_given,
    "lets": twin_lets,
    "uses": twin_same_word,
    "both": twin_same_word,
    "first": twin_same_word,
    "second": twin_same_word,
    "this": twin_side,
    "that": twin_side,
    "cases": twin_cases,
    "for": twin_same_word,
    "at": twin_same_word,
    "such": twin_such,
    "open": twin_open,
    "absurd": twin_absurd,
    "equal": twin_equation,
    "put": twin_put,
    "reckoned": twin_equation,
    "sums": twin_equation,
    "down": twin_down,
    "never": twin_never,
    "climb": twin_climb,
    "twice": twin_twice,
}


def labels_of(piece, inner):
    """The labels of the open givens of a ground, by those of its grounds: a dict of True."""
    found = {piece[1]: True} if piece[0] == "given" else {}
    for part, (_, closed) in zip(inner, closed_words(piece)):
        for label in part.labels:
            if label != closed:
                found[label] = True
    return found


def twin_of(piece, inner, wish):
    """What comes of a piece of a right ground, by what came of its grounds."""
    says = SAYS[piece[0]]
    saying = says(piece, [part.saying for part in inner])
    plain = piece[0] != "twice" and all([part.plain for part in inner])
    twin = Twin(saying, piece, labels_of(piece, inner), plain)
    if twin.is_own() and is_liftable(saying):
        # Also right without this; but much smaller, where hardly anything goes by contraries.
        twin.ground = lifted(saying, piece, wish)
    else:
        tell = TWINS[piece[0]]
        twin.ground = tell(piece, inner, saying, wish)
    return twin


def ground_doubled(ground, saying):
    """A right ground doubled by a saying as the wish, plain."""
    shunned = {name: True for name in names_in(saying)}
    # A closed name of the wish would come to close that one, too.
    apart = exchanged(ground, {}, {}, Exchange(shunned, {}, {**words_of(ground), **shunned}))
    wish = Wish(saying, {**words_of(apart), **shunned})
    rows, _ = in_order(apart, grounds_of, MOST_PIECES, MOST_WITHIN)
    done = []
    for piece, _ in rows:
        done.append(twin_of(piece, popped(done, len(grounds_of(piece))), wish))
    return done[0].ground


def doubled(saying, wish):
    """A saying doubled by a wish, a saying."""
    return Wish(wish, {}).doubled(saying)


def stable(saying, wish):
    """A plain ground without givens of (if (if (if D W) W) D), D a saying doubled by a wish W."""
    used = {name: True for name in names_in(saying) + names_in(wish)}
    return stable_by(saying, Wish(wish, used))


def doubled_ground(ground, wish):
    """A plain ground of what a right one grounds, doubled by a wish, whose givens are so, too; NoGround."""
    grounded(ground)
    return ground_doubled(ground, wish)
