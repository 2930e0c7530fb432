"""The search for a worth that bears a saying out."""

from prooffruit.kinds import kind_of
from prooffruit.runs import run
from prooffruit.sayings import put_in
from prooffruit.terms import worth
from prooffruit.wording import word_at
from prooffruit.yields import least


def first_some(saying, numbers, most):
    """As first_worth, of a some."""
    # No name stands in a closed saying, so those that were taken for other somes around are told by how many they are.
    name = word_at(len(numbers))
    inner = put_in(saying[1], ("name", name))
    for number in range(most + 1):
        found = first_worth(inner, {**numbers, name: number}, most)
        if len(found) > 0:
            return [number if found[0] is None else (number, found[0])]
    return []


def first_and(saying, numbers, most):
    """As first_worth, of an and."""
    left = first_worth(saying[1], numbers, most)
    right = first_worth(saying[2], numbers, most) if len(left) > 0 else []
    if len(right) == 0:
        return []
    if left[0] is None:
        return right
    return left if right[0] is None else [(left[0], right[0])]


def first_or(saying, numbers, most):
    """As first_worth, of an or."""
    for side, part in (("this", saying[1]), ("that", saying[2])):
        found = first_worth(part, numbers, most)
        if len(found) > 0:
            return [(side, found[0])]
    return []


def first_worth(saying, numbers, most):
    """A list of one worth that bears a seen saying, without numbers above the most; an empty one where there is none.

    The saying is closed but for names that have numbers. TooMany.
    """
    word = saying[0]
    if word == "same":
        left = worth(saying[1], numbers)
        return [None] if left == worth(saying[2], numbers) else []
    if word == "and":
        return first_and(saying, numbers, most)
    if word == "or":
        return first_or(saying, numbers, most)
    if word == "some":
        return first_some(saying, numbers, most)
    if word == "no":
        return []
    if len(first_worth(saying[1], numbers, most)) > 0:
        return first_worth(saying[2], numbers, most)
    return [run(least(kind_of(saying[2])), {})]
