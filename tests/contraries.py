"""Grounds by contraries, and such as judge, yield and run what is greater than may be handed in."""

from unittest import mock

from prooffruit.judge import grounded
from tests.samples import NO


def given(label, saying):
    return ("given", label, saying)


def by_contraries(ground, label="u"):
    """A ground of the same saying, by contraries."""
    against = given(label, ("if", grounded(ground)[0], NO))
    return ("twice", ("lets", label, against[2], ("uses", against, ground)))


def either_or_not(saying, label="u", other="v"):
    """A ground of (or A (if A no)), by contraries."""
    against = given(label, ("if", ("or", saying, ("if", saying, NO)), NO))
    so = ("this", given(other, saying), ("if", saying, NO))
    return ("twice", ("lets", label, against[2], (
        "uses", against, ("that", saying, ("lets", other, saying, ("uses", against, so))))))


def without_limits(told, *things):
    """What is told where no size is too great."""
    with mock.patch.multiple("prooffruit.terms", MOST_PIECES=10 ** 7, MOST_WITHIN=10 ** 4), \
            mock.patch.multiple("prooffruit.judge", MOST_PIECES=10 ** 6, MOST_WITHIN=10 ** 4):
        return told(*things)
