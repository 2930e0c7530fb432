"""Sayings doubled by a wish, and grounds of these: by ways that lead to the wish, or by grounds of what was doubled.

In a saying doubled each equation, or and some is led to the wish: so whatever shows it may itself go by the wish.
"""

from prooffruit.kinds import sayings_of
from prooffruit.sayings import put_in
from prooffruit.wording import Words

FIRST = ("first", (), ())
SECOND = ("second", (), ())


class Wish:
    """A saying by which others are doubled, with words that may come to close more: those that aren't used."""

    def __init__(self, saying, used):
        self.saying = saying
        self.words = Words(used)

    def fresh_name(self):
        """A name that isn't used yet, as a term."""
        return ("name", self.words.fresh())

    def given(self, saying):
        """A given of a saying, by a label that isn't used yet."""
        return ("given", self.words.fresh(), saying)

    def doubled(self, saying):
        """A saying doubled by this wish."""
        word = saying[0]
        if word == "no":
            return self.saying
        if word == "same":
            return ("if", self.from_it(saying), self.saying)
        parts = [self.doubled(part) for part in sayings_of(saying)]
        if word == "or":
            return ("if", ("and", self.from_it(parts[0]), self.from_it(parts[1])), self.saying)
        if word == "some":
            return ("if", ("all", self.from_it(parts[0])), self.saying)
        return (word, *parts)

    def from_it(self, saying):
        """That the wish comes of a saying."""
        return ("if", saying, self.saying)


def closing(given, ground):
    """The lets that closes the label of a given in a ground."""
    return ("lets", given[1], given[2], ground)


def carried(ground, steps):
    """What comes of a ground by steps: each a word, with what stands ahead of the ground and what behind it."""
    for word, ahead, after in steps:
        ground = (word, *ahead, ground, *after)
    return ground


def forks(saying):
    """Whether an and stands behind what is ahead in a saying: if and all."""
    while saying[0] in ("if", "all"):
        saying = saying[-1]
    return saying[0] == "and"


def reached(saying, wish, steps, make):
    """A ground of a saying doubled.

    make tells a ground of the wish, by the steps that lead there from a ground of the whole that was doubled.
    """
    word = saying[0]
    if word == "no":
        return make(steps)
    if word == "and":
        left = reached(saying[1], wish, steps + [FIRST], make)
        return ("both", left, reached(saying[2], wish, steps + [SECOND], make))
    if word == "all":
        term = wish.fresh_name()
        inner = put_in(saying[1], term)
        return ("for", term[1], reached(inner, wish, steps + [("at", (), (term,))], make))
    given = wish.given(wish.doubled(saying)[1])
    further = steps + [("uses", (), (given,))]
    if word == "if":
        return closing(given, reached(saying[2], wish, further, make))
    return closing(given, make(further))


def stable_by(saying, wish):
    """A ground of (if (if (if D W) W) D), D the saying doubled, W the wish."""
    due = wish.doubled(saying)
    rule = wish.given(wish.from_it(wish.from_it(due)))

    def make(steps):
        given = wish.given(due)
        return ("uses", rule, closing(given, carried(given, steps)))

    return closing(rule, reached(saying, wish, [], make))


def led(saying, wish, make):
    """As reached, from no steps, but make is asked once alone: what it tells may be great."""
    if not forks(saying):
        return reached(saying, wish, [], make)
    rule = wish.given(wish.from_it(wish.doubled(saying)))
    return ("uses", stable_by(saying, wish), closing(rule, make([("uses", (rule,), ())])))


def is_liftable(saying):
    """Whether a ground of a saying doubled comes of one of the saying by lifted."""
    todo = [saying]
    while todo:
        piece = todo.pop()
        if piece[0] == "if" and piece[1][0] != "same":
            return False
        todo.extend(piece[2:] if piece[0] == "if" else sayings_of(piece))
    return True


def is_small(ground):
    """Whether a ground is a given, but for first, second, at around it."""
    while ground[0] in ("first", "second", "at"):
        ground = ground[1]
    return ground[0] == "given"


def lifted(saying, ground, wish):
    """A ground of a saying doubled, by one of the saying itself."""
    if forks(saying) and not is_small(ground):
        given = wish.given(saying)
        return ("uses", closing(given, lifted_from(saying, given, wish, [])), ground)
    return lifted_from(saying, ground, wish, [])


def lifted_from(saying, ground, wish, firsts):
    """As lifted, but the ground may stand on equations: firsts tells the given of each, and one of it doubled."""
    word = saying[0]
    if word == "and":
        left = lifted_from(saying[1], ("first", ground), wish, firsts)
        return ("both", left, lifted_from(saying[2], ("second", ground), wish, firsts))
    if word == "all":
        term = wish.fresh_name()
        return ("for", term[1], lifted_from(put_in(saying[1], term), ("at", ground, term), wish, firsts))
    if word == "if":
        plain = wish.given(saying[1])
        twice = wish.given(wish.doubled(saying[1]))
        rest = lifted_from(saying[2], ("uses", ground, plain), wish, firsts + [(plain, twice)])
        return closing(twice, rest)
    if word == "no":
        return behind(firsts, ("absurd", ground, wish.saying))
    rule = wish.given(wish.doubled(saying)[1])
    return closing(rule, behind(firsts, wished(saying, ground, wish, rule)))


def behind(firsts, ground):
    """A ground of the wish that doesn't stand any more on the equations that firsts tells, but on these doubled."""
    for plain, twice in reversed(firsts):
        ground = ("uses", twice, closing(plain, ground))
    return ground


def wished(saying, ground, wish, rule):
    """A ground of the wish, by one of an equation, an or, a some, and by a rule: the first side of that doubled."""
    if saying[0] == "same":
        return ("uses", rule, ground)
    if saying[0] == "some":
        term = wish.fresh_name()
        given = wish.given(put_in(saying[1], term))
        return ("open", ground, term[1], given[1], ("uses", ("at", rule, term), lifted(given[2], given, wish)))
    left = wish.given(saying[1])
    right = wish.given(saying[2])
    return ("cases", ground, left[1], ("uses", ("first", rule), lifted(left[2], left, wish)),
            right[1], ("uses", ("second", rule), lifted(right[2], right, wish)))
