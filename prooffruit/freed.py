"""Grounds freed of contraries: of what says of some number, for all others, that an equation holds."""

from prooffruit.doubled import ground_doubled
from prooffruit.errors import NoGround
from prooffruit.exchange import open_names_of, with_term, words_of
from prooffruit.grounds import is_plain
from prooffruit.judge import grounded
from prooffruit.sayings import names_in, put_in
from prooffruit.wishes import Wish, closing
from prooffruit.wording import Words

NOUGHT = ("num", 0)


def is_freeable(saying):
    """Whether a saying is closed, and of the form (all .. (all (some E))), E an equation."""
    if len(names_in(saying)) > 0:
        return False
    while saying[0] == "all":
        saying = saying[1]
    return saying[0] == "some" and saying[1][0] == "same"


def wish_shown(wish):
    """A ground of it that for all numbers the wish, a some, comes of what it says of them, doubled."""
    term = wish.fresh_name()
    equation = put_in(wish.saying[1], term)
    given = wish.given(equation)
    rule = wish.given(wish.doubled(equation))
    shown = closing(given, ("such", wish.saying[1], term, given))
    return ("for", term[1], closing(rule, ("uses", rule, shown)))


def at_term(ground, term):
    """A right ground of what a ground of an all says at a term."""
    return with_term(ground[2], ground[1], term) if ground[0] == "for" else ("at", ground, term)


def freed_of(ground, saying):
    """A plain ground without givens of a saying that can be freed, by one by contraries."""
    words = Words(words_of(ground))
    names = []
    while saying[0] == "all":
        names.append(words.fresh())
        ground = at_term(ground, ("name", names[-1]))
        saying = put_in(saying[1], ("name", names[-1]))
    shown = wish_shown(Wish(saying, {name: True for name in names}))
    shown = ("uses", ground_doubled(ground, saying), shown)
    for name in reversed(names):
        shown = ("for", name, shown)
    return shown


def freed(ground):
    """A plain ground without givens of the same saying (all .. (all (some E))), by one by contraries; NoGround."""
    saying, givens = grounded(ground)
    if len(givens) > 0:
        raise NoGround((), "given")
    if not is_freeable(saying):
        raise NoGround((), "saying")
    # A name that is open though it isn't seen in the saying stands for no number: any will do.
    for name in open_names_of(ground):
        ground = with_term(ground, name, NOUGHT)
    return ground if is_plain(ground) else freed_of(ground, saying)
