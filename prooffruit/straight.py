"""Grounds straightened: cleared of all detours, the first one first."""

from prooffruit.detours import piece_at, places_of, undone
from prooffruit.errors import NoGround, TooMany
from prooffruit.grounds import grounds_of
from prooffruit.judge import MOST_PIECES, MOST_WITHIN, grounded
from prooffruit.order import in_order


def is_let_by(ground, place):
    """Whether a ground, right but for its size, may be handed in, where it is a new one at a place alone."""
    _, fault = in_order(ground, grounds_of, MOST_PIECES, MOST_WITHIN)
    if fault is not None:
        return False
    # What stands elsewhere grounds what it did, of a size that was let by.
    try:
        grounded(piece_at(ground, place))
    except NoGround:
        return False
    return True


def straight(ground, *, limit=200):
    """What comes of a ground when its first detour is taken away again and again; NoGround, TooMany."""
    grounded(ground)
    taken_away = 0
    places = places_of(ground)
    while len(places) > 0:
        if taken_away >= limit:
            raise TooMany()
        ground = undone(ground, places[0])
        if not is_let_by(ground, places[0]):
            raise TooMany()
        taken_away += 1
        places = places_of(ground)
    return ground
