"""Right grounds of many forms, made by chance; each seed makes the same ones each time."""

import random

from prooffruit.judge import grounded
from prooffruit.sayings import names_in, put_in, taken
from tests.samples import B0, NO, NOUGHT, ONE

NAMES = ["x", "y", "z", "a", "b", "ab"]
LABELS = ["u", "v", "w", "a", "b", "ab"]


class Maker:
    def __init__(self, seed, plain=True):
        self.chance = random.Random(seed)
        self.plain = plain

    def term(self, names=(), size=2):
        pick = self.chance.randrange(6) if size > 0 else self.chance.randrange(3)
        if pick == 0 or (pick == 1 and not names):
            return ("num", self.chance.randrange(4))
        if pick <= 2 and names:
            return ("name", self.chance.choice(list(names)))
        if pick <= 2:
            return NOUGHT
        if pick == 3:
            return ("next", self.term(names, size - 1))
        return (("plus", "times")[pick - 4], self.term(names, size - 1), self.term(names, size - 1))

    def body_of(self, saying):
        """A body and a term that makes it this saying."""
        todo = [saying]
        terms = []
        while todo:
            piece = todo.pop()
            if piece[0] in ("num", "name", "next", "plus", "times"):
                if not has_bound(piece):
                    terms.append(piece)
            todo.extend(part for part in piece[1:] if isinstance(part, tuple))
        if not terms or self.chance.random() < 0.2:
            return saying, self.term()
        term = self.chance.choice(terms)
        return self.replaced(saying, term, 0), term

    def replaced(self, piece, term, around):
        if piece == term and self.chance.random() < 0.8:
            return ("bound", around)
        inner = around + 1 if piece[0] in ("all", "some") else around
        return (piece[0],) + tuple(
            self.replaced(part, term, inner) if isinstance(part, tuple) else part for part in piece[1:])

    def true(self, names, size):
        """A right ground of some saying, without givens."""
        pick = self.chance.randrange(13) if size > 0 else self.chance.randrange(4)
        size -= 1
        if pick == 0:
            return ("equal", self.term(names))
        if pick == 1:
            k = self.chance.randrange(4)
            return ("sums", k, self.term(names), self.term(names))
        if pick == 2:
            n = self.chance.randrange(4)
            return ("reckoned", ("plus", ONE, ("num", n)), ("num", n + 1))
        if pick == 3:
            return ("reckoned", ("times", ("num", 2), ("num", 3)), ("next", ("num", 5)))
        if pick == 4:
            return ("both", self.true(names, size), self.true(names, size))
        if pick == 5:
            return ("this", self.true(names, size), self.saying(names))
        if pick == 6:
            return ("that", self.saying(names), self.true(names, size))
        if pick == 7:
            x = self.chance.choice(NAMES)
            return ("for", x, self.true({*names, x}, size))
        if pick in (8, 9):
            inner = self.true(names, size)
            body, term = self.body_of(said(inner))
            return ("such", body, term, inner)
        if pick == 10:
            return ("lets", self.chance.choice(LABELS), self.saying(names), self.true(names, size))
        if pick == 11:
            label, saying = self.chance.choice(LABELS), self.saying(names)
            return ("lets", label, saying, self.from_given(("given", label, saying), names, size))
        return self.climb(names, size)

    def from_given(self, ground, names, size):
        """Some ground that stands on this one."""
        word = said(ground)[0]
        if word == "and":
            return (self.chance.choice(["first", "second"]), ground)
        if word == "all":
            return ("at", ground, self.term(names))
        if word == "no":
            return ("absurd", ground, self.saying(names))
        return self.detour(ground, names, size)

    def saying(self, names, size=2):
        pick = self.chance.randrange(8) if size > 0 else self.chance.randrange(2)
        size -= 1
        if pick == 0:
            return NO if self.chance.random() < 0.5 else ("same", NOUGHT, ONE)
        if pick <= 2:
            return ("same", self.term(names, 1), self.term(names, 1))
        if pick <= 5:
            return (("and", "or", "if")[pick - 3], self.saying(names, size), self.saying(names, size))
        x = self.chance.choice(NAMES)
        return (("all", "some")[pick - 6], taken(self.saying({*names, x}, size), x))

    def climb(self, names, size):
        """Of (some (same b0 t)): each turn opens what came last and tells the next one."""
        free = [x for x in NAMES if x not in names]
        x, y = free[0], free[1]
        u, v = self.chance.sample(LABELS, 2)
        body = ("some", ("same", ("bound", 0), ("plus", ("bound", 1), self.term(names, 0))))
        rest = body[1][2][2]
        start = put_in(body, NOUGHT)
        turn = put_in(body, ("next", ("name", x)))
        p = ("such", start[1], ("plus", NOUGHT, rest), ("equal", ("plus", NOUGHT, rest)))
        sum_next = ("plus", ("next", ("name", x)), rest)
        if self.chance.random() < 0.5:
            q = ("such", turn[1], sum_next, ("equal", sum_next))
        else:
            inner = ("such", turn[1], sum_next, ("equal", sum_next))
            q = ("open", ("given", u, put_in(body, ("name", x))), y, v, inner)
        return ("climb", body, p, x, u, q, self.term(names))

    def detour(self, ground, names, size):
        """Another ground of the same saying, that stands on this one."""
        saying = said(ground)
        size -= 1
        label, other = self.chance.sample([label for label in LABELS if label not in opens(ground)] + ["p", "q"], 2)
        around = set(names_in(saying))
        for held in opens(ground).values():
            around.update(names_in(held))
        extra = self.true(names, min(size, 1))
        around.update(names_in(said(extra)))
        x = self.chance.choice([x for x in NAMES + ["k"] if x not in around])
        pick = self.chance.randrange(11 if self.plain else 12)
        if pick == 0:
            return ("first", ("both", ground, extra))
        if pick == 1:
            return ("second", ("both", extra, ground))
        if pick == 2:
            return ("uses", ("lets", label, said(extra), ground), extra)
        if pick == 3:
            return ("uses", ("lets", label, saying, ("given", label, saying)), ground)
        if pick == 4:
            return ("at", ("for", x, ground), self.term(names))
        if pick == 5:
            return ("cases", ("this", extra, self.saying(names)), label, ground, other, ground)
        if pick == 6:
            return ("cases", ("that", self.saying(names), ground), label, ground, other, ("given", other, saying))
        if pick == 7:
            body, term = self.body_of(said(extra))
            return ("open", ("such", body, term, extra), x, label, ground)
        if pick == 8:
            body, term = self.body_of(saying)
            return ("put", ("equal", term), body, ground)
        if pick == 9:
            return ("climb", saying, ground, x, label, ("given", label, saying), self.term(names))
        if pick == 10:
            return ("climb", saying, ground, x, label, ground, self.term(names))
        against = ("given", label, ("if", saying, NO))
        return ("twice", ("lets", label, against[2], ("uses", against, ground)))

    def ground(self, size=3, detours=3):
        """A right ground, now and then with open givens and names."""
        names = set(self.chance.sample(NAMES, self.chance.randrange(3)))
        ground = self.true(names, size)
        if self.chance.random() < 0.4:
            label = self.chance.choice(LABELS)
            ground = ("both", ("given", label, self.saying(names)), ground)
        for _ in range(self.chance.randrange(detours + 1)):
            ground = self.detour(ground, names, size)
        return ground


def has_bound(piece):
    return piece[0] == "bound" or any(has_bound(part) for part in piece[1:] if isinstance(part, tuple))


def said(ground):
    return grounded(ground)[0]


def opens(ground):
    return dict(grounded(ground)[1])


def places_in(thing, place=()):
    """The places of all tuples within a thing, by parts."""
    found = [place]
    for at, part in enumerate(thing):
        if isinstance(part, tuple):
            found.extend(places_in(part, place + (at,)))
    return found


def with_part(thing, place, part):
    if not place:
        return part
    at = place[0]
    return thing[:at] + (with_part(thing[at], place[1:], part),) + thing[at + 1:]


def part_at(thing, place):
    for at in place:
        thing = thing[at]
    return thing


def spoiled(chance, thing, others):
    """A thing with one part of it, or two, exchanged for another one, by chance."""
    for _ in range(chance.choice([1, 1, 2, 3])):
        place = chance.choice(places_in(thing))
        inner = part_at(thing, place)
        pick = chance.randrange(5)
        if pick == 0 and inner:
            at = chance.randrange(len(inner))
            new = inner[:at] + inner[at + 1:]
        elif pick == 1:
            new = chance.choice(others)
        elif pick == 2 and inner:
            at = chance.randrange(len(inner))
            new = inner[:at] + (chance.choice(["u", "x", "y", 1, 0, 3, None, NO, B0, "both", "lets", NOUGHT]),
                                ) + inner[at + 1:]
        elif pick == 3:
            new = part_at(thing, chance.choice(places_in(thing)))
        else:
            other = chance.choice(others)
            new = part_at(other, chance.choice(places_in(other)))
        thing = with_part(thing, place, new)
        if not isinstance(thing, tuple):
            return thing
    return thing


def ground_places(ground, parts_of):
    """(place by parts, what stands there) of all parts of a ground and of those in it."""
    found = []
    todo = [(ground, ())]
    while todo:
        piece, place = todo.pop()
        for at, what in enumerate(parts_of(piece), start=1):
            found.append((place + (at,), what))
            if what == "ground":
                todo.append((piece[at], place + (at,)))
    return found


def swapped(chance, thing, other, parts_of):
    """A thing in which some part is exchanged for one of its own sort, of itself or of another one."""
    place, what = chance.choice([row for row in ground_places(thing, parts_of) if row[1] != "which"])
    if what in ("name", "label") and chance.random() < 0.7:
        return with_part(thing, place, chance.choice(NAMES if what == "name" else LABELS))
    source = chance.choice([thing, other])
    rows = [row for row, sort in ground_places(source, parts_of) if sort == what]
    return with_part(thing, place, part_at(source, chance.choice(rows))) if rows else thing
