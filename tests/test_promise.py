"""Point 3: what yields tell bears the sayings out of whose grounds they were taken."""

import unittest

from prooffruit.errors import TooMany
from prooffruit.judge import grounded
from prooffruit.kinds import has_from, kind_of
from prooffruit.programs import judged
from prooffruit.putting import named, open_names, supplied
from prooffruit.runs import is_worth, run
from prooffruit.sayings import names_in, put_for, put_in
from prooffruit.settled import settled, shown_by
from prooffruit.sight import bears, is_flat, is_seen, is_true
from prooffruit.yields import yielded
from tests.making import Maker
from tests.samples import B0, B1, NO, NOUGHT, ONE, X, Y

Z = ("name", "z")


def num(n):
    return ("num", n)


def at_numbers(saying, numbers):
    for name, number in numbers.items():
        saying = put_for(saying, name, num(number))
    return saying


def turned(ground, left):
    """Of (same right left) by a ground of (same left right)."""
    return ("put", ground, ("same", B0, left), ("equal", left))


def joined(one, other, left):
    """Of (same left right) by grounds of (same left mid) and (same mid right)."""
    return ("put", other, ("same", left, B0), one)


def next_sum(y, t):
    """Of (same (plus (next y) t) (next (plus y t))), by a climb to t."""
    body = ("same", ("plus", ("next", y), B0), ("next", ("plus", y, B0)))
    z = ("name", "k")
    # next y + 0 = next y, and y + 0 = y.
    start = ("put", turned(("sums", 0, y, NOUGHT), ("plus", y, NOUGHT)),
             ("same", ("plus", ("next", y), NOUGHT), ("next", B0)), ("sums", 0, ("next", y), y))
    # next y + next z = next (next y + z) = next (next (y + z)) = next (y + next z).
    sum_next = ("plus", ("next", y), ("next", z))
    mid = ("put", ("given", "h", put_in(body, z)), ("same", sum_next, ("next", B0)), ("sums", 1, ("next", y), z))
    turn = ("put", turned(("sums", 1, y, z), ("plus", y, ("next", z))), ("same", sum_next, ("next", B0)), mid)
    return ("climb", body, start, "k", "h", turn, t)


HALVES = ("some", ("or", ("same", B1, ("plus", B0, B0)), ("same", B1, ("next", ("plus", B0, B0)))))


def halves(term):
    """Of it that a term is twice some number, or one more: by a climb with open and cases in its turns."""
    base = put_in(HALVES, NOUGHT)[1]
    start = ("such", base, NOUGHT, ("this", ("reckoned", NOUGHT, ("plus", NOUGHT, NOUGHT)), put_in(base, NOUGHT)[2]))
    above = put_in(HALVES, ("next", X))[1]
    even, odd = put_in(put_in(HALVES, X)[1], Y)[1:]
    twice = ("plus", Y, Y)
    up = ("put", ("given", "e", even), ("same", ("next", X), ("next", B0)), ("equal", ("next", X)))
    left = ("such", above, Y, ("that", put_in(above, Y)[1], up))
    # next x = next (next (y + y)) = next (next y + y) = next y + next y.
    more = ("put", ("given", "o", odd), ("same", ("next", X), ("next", B0)), ("equal", ("next", X)))
    more = ("put", turned(next_sum(Y, Y), ("plus", ("next", Y), Y)), ("same", ("next", X), ("next", B0)), more)
    more = ("put", turned(("sums", 1, ("next", Y), Y), ("plus", ("next", Y), ("next", Y))), ("same", ("next", X), B0),
            more)
    right = ("such", above, ("next", Y), ("this", more, put_in(above, ("next", Y))[2]))
    turn = ("open", ("given", "u", put_in(HALVES, X)), "y", "v",
            ("cases", ("given", "v", ("or", even, odd)), "e", left, "o", right))
    assert twice == even[2]
    return ("climb", HALVES, start, "x", "u", turn, term)


class Halves(unittest.TestCase):
    def test_ground(self):
        self.assertEqual(grounded(halves(Z)), (put_in(HALVES, Z), ()))
        self.assertEqual(open_names(halves(Z)), ["z"])

    def test_at_numbers(self):
        program = yielded(halves(Z))
        for n in range(40):
            due = (n // 2, ("this", None) if n % 2 == 0 else ("that", None))
            self.assertEqual(run(program, {"z": n}), due)
            self.assertIs(bears(put_in(HALVES, num(n)), due), True)
            self.assertEqual(run(yielded(named(halves(Z), "z", num(n))), {}), due)
            self.assertEqual(run(yielded(halves(("plus", num(n), ("times", ONE, NOUGHT)))), {}), due)

    def test_for_all(self):
        ground = ("for", "z", halves(Z))
        self.assertEqual(grounded(ground), (("all", HALVES), ()))
        for n in (0, 1, 8, 13):
            self.assertEqual(run(("call", yielded(ground), num(n)), {}), run(yielded(halves(num(n))), {}))
            self.assertEqual(run(yielded(("at", ground, num(n))), {}), run(yielded(halves(num(n))), {}))

    def test_too_many_just_by_the_steps(self):
        program = yielded(halves(Z))
        last = 0
        for n in range(12):
            steps = next(limit for limit in range(1000) if runs(program, {"z": n}, limit))
            self.assertGreater(steps, last)
            self.assertTrue(runs(program, {"z": n}, steps + 1))
            last = steps
        self.assertFalse(runs(program, {"z": 10 ** 9}, 5000))

    def test_where_a_number_comes_that_is_too_great(self):
        ground = ("such", ("same", B0, ("next", Z)), ("next", Z), ("equal", ("next", Z)))
        program = yielded(ground)
        self.assertEqual(run(program, {"z": 10 ** 60 - 2}), 10 ** 60 - 1)
        self.assertFalse(runs(program, {"z": 10 ** 60 - 1}, 10 ** 9))


def runs(program, numbers, limit):
    try:
        run(program, numbers, limit=limit)
    except TooMany:
        return False
    return True


class ByChance(unittest.TestCase):
    def test_right_plain_grounds(self):
        words = {}
        for seed in range(500):
            maker = Maker(seed)
            ground = maker.ground(size=4, detours=4)
            saying, givens = grounded(ground)
            numbers = {name: maker.chance.randrange(4) for name in open_names(ground)}
            closed = at_numbers(saying, numbers)
            sure = [at_numbers(needs, numbers) for _, needs in givens]
            if not all(is_flat(needs) and is_true(needs) for needs in sure):
                continue
            program = yielded(ground)
            self.assertEqual(judged(program)[0], kind_of(saying))
            # Behind alls in front, so at each number.
            while closed[0] == "all":
                number = maker.chance.randrange(4)
                closed = put_in(closed[1], num(number))
                if kind_of(closed) != ("none",):
                    program = ("call", program, num(number))
            if is_seen(closed):
                worth = run(program, numbers)
                self.assertIs(bears(closed, worth), True, (ground, numbers, worth))
                words[closed[0]] = words.get(closed[0], 0) + 1
        for word in ("some", "or", "and", "if", "same"):
            self.assertGreater(words[word], 10, words)

    def test_terms_put_for_names(self):
        done = 0
        for seed in range(250):
            maker = Maker(seed + 1000)
            ground = maker.ground(size=3, detours=3)
            names = open_names(ground)
            kind, _, knowns = judged(yielded(ground))
            if not names or knowns or has_from(kind):
                continue
            term = maker.term(["a", "b", "x"], 2)
            told = named(ground, names[0], term)
            numbers = {name: maker.chance.randrange(4) for name in [*open_names(ground), *names_in(term), "a", "b",
                "x"]}
            before = dict(numbers)
            before[names[0]] = run(term, numbers)
            self.assertEqual(run(yielded(told), numbers), run(yielded(ground), before), (ground, term))
            done += 1
        self.assertGreater(done, 40)

    def test_grounds_put_for_givens(self):
        done = 0
        for seed in range(250):
            maker = Maker(seed + 2000)
            other = maker.true((), 3)
            needs = grounded(other)[0]
            kind = kind_of(needs)
            if kind == ("none",) or has_from(kind):
                continue
            ground = maker.detour(("both", ("given", "g", needs), maker.true((), 2)), set(), 2)
            if has_from(kind_of(grounded(ground)[0])) or "g" not in dict(grounded(ground)[1]):
                continue
            told = supplied(ground, "g", other)
            numbers = {name: maker.chance.randrange(4) for name in open_names(told)}
            whole = yielded(ground)
            knowns = [label for label, _ in judged(whole)[2]]
            if knowns == ["g"]:
                program = ("call", ("lets", "g", kind, whole), yielded(other))
                self.assertEqual(run(yielded(told), numbers), run(program, numbers), (ground, other))
                done += 1
        self.assertGreater(done, 30)


class Shown(unittest.TestCase):
    def test_what_bears_a_saying_out_is_the_worth_of_a_yield(self):
        for n in range(6):
            saying = put_in(HALVES, num(n))
            for worth in [(half, (side, None)) for half in range(4) for side in ("this", "that")]:
                if bears(saying, worth):
                    ground = shown_by(saying, worth)
                    self.assertEqual(grounded(ground), (saying, ()))
                    self.assertEqual(run(yielded(ground), {}), worth)
                    self.assertEqual(run(yielded(halves(num(n))), {}), worth)

    def test_what_is_settled_bears_no(self):
        # From what isn't so, whatever stands behind comes: so its yield tells a worth of the kind.
        word, ground = settled(("same", ("plus", ONE, ONE), num(3)))
        self.assertEqual(word, "no")
        whole = ("lets", "u", grounded(ground)[0][1], ("absurd",
                                                       ("uses", ground, ("given", "u", grounded(ground)[0][1])),
                                                       put_in(HALVES, num(5))))
        saying = grounded(whole)[0]
        worth = run(yielded(whole), {})
        self.assertIs(is_worth(kind_of(saying), worth), True)
        self.assertIs(bears(saying, worth), True)
        self.assertEqual(worth, (0, ("this", None)))
        self.assertEqual(grounded(("uses", ("lets", "n", NO, ("given", "n", NO)), ("given", "m", NO)))[0], NO)


if __name__ == "__main__":
    unittest.main()
