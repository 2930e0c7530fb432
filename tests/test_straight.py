"""Point 18: grounds cleared of all detours."""

import unittest

from prooffruit.detours import detours, without
from prooffruit.errors import GroundError, NoGround, TooMany
from prooffruit.judge import grounded
from prooffruit.kinds import has_from
from prooffruit.programs import judged
from prooffruit.putting import alike, named, open_names
from prooffruit.runs import run
from prooffruit.settled import settled
from prooffruit.straight import straight
from prooffruit.terms import worth
from prooffruit.yields import yielded
from tests.making import Maker
from tests.samples import B0, NO, NOUGHT, ODD, ONE, X, Y, bush, nested, tower
from tests.test_promise import HALVES, halves

A = ("same", X, ONE)
B = ("same", Y, NOUGHT)
P, Q = ("given", "p", A), ("given", "q", B)


def num(n):
    return ("num", n)


def padded(ground, times):
    """A ground with so many detours around it."""
    for _ in range(times):
        ground = ("first", ("both", ground, Q))
    return ground


def taken_one_by_one(ground):
    """What comes, and how many were taken away, each time the first one."""
    many = 0
    while detours(ground):
        ground = without(ground, detours(ground)[0])
        many += 1
    return ground, many


class Straight(unittest.TestCase):
    def too_many(self, ground, **more):
        with self.assertRaises(TooMany) as held:
            straight(ground, **more)
        self.assertIsInstance(held.exception, GroundError)

    def test_without_detours(self):
        for ground in (P, ("equal", X), ("both", P, Q), ("for", "x", ("equal", X))):
            self.assertEqual(straight(ground), ground)
            self.assertEqual(straight(ground, limit=0), ground)

    def test_limits(self):
        for many in (1, 2, 5, 30):
            ground = padded(P, many)
            self.assertEqual(straight(ground, limit=many), P)
            self.assertEqual(straight(ground, limit=many + 1), P)
            self.too_many(ground, limit=many - 1)
            self.too_many(ground, limit=0)

    def test_two_hundred_if_nothing_is_said(self):
        rows = [padded(P, 5)] * 40
        while len(rows) > 1:
            rows = [("cases", ("first", ("both", ("given", "o", ("or", A, A)), Q)), "u", rows[k], "v", rows[k + 1])
                    for k in range(0, len(rows) - 1, 2)] + rows[len(rows) - len(rows) % 2:]
        ground = rows[0]
        # 40 rows of five, and one for each of the 39 that join two.
        self.assertEqual(len(detours(ground)), 239)
        self.too_many(ground)
        self.assertEqual(detours(straight(ground, limit=239)), [])
        self.too_many(ground, limit=238)
        ground = bush("both", ("equal", X), 20)
        many = 0
        while many < 200:
            ground = ("both", padded(("equal", X), 40), ground)
            many += 40
        self.assertEqual(len(detours(ground)), 200)
        self.assertEqual(detours(straight(ground)), [])
        self.too_many(("first", ("both", ground, Q)))

    def test_the_first_one_first(self):
        # Taken away first, the outer one takes the inner ones away with it, or makes two of one.
        inner = padded(P, 3)
        self.assertEqual(straight(("second", ("both", inner, Q)), limit=1), Q)
        twice = ("uses", ("lets", "u", A, ("both", ("given", "u", A), ("given", "u", A))), inner)
        self.assertEqual(straight(twice, limit=7), ("both", P, P))
        self.too_many(twice, limit=6)
        unused = ("uses", ("lets", "u", A, Q), inner)
        self.assertEqual(straight(unused, limit=1), Q)
        self.assertEqual(straight(("both", twice, unused), limit=8), ("both", ("both", P, P), Q))
        self.too_many(("both", twice, unused), limit=7)

    def test_beside_one_by_one(self):
        for seed in range(80):
            maker = Maker(seed + 300, plain=seed % 4 > 0)
            ground = maker.ground(size=3, detours=3)
            told = straight(ground, limit=1000)
            due, many = taken_one_by_one(ground)
            self.assertIs(alike(told, due), True)
            self.assertEqual(detours(told), [])
            self.assertEqual(straight(ground, limit=many), told)
            if many > 0:
                self.too_many(ground, limit=many - 1)
            saying, givens = grounded(ground)
            self.assertEqual(grounded(told)[0], saying)
            self.assertLessEqual(set(grounded(told)[1]), set(givens))

    def test_same_worths(self):
        done = 0
        for seed in range(150):
            maker = Maker(seed + 700)
            ground = maker.ground(size=3, detours=3)
            told = straight(ground, limit=1000)
            kind, _, knowns = judged(yielded(ground))
            if has_from(kind) or knowns:
                continue
            numbers = {name: maker.chance.randrange(4) for name in open_names(ground)}
            self.assertEqual(run(yielded(told), numbers), run(yielded(ground), numbers))
            done += 1
        self.assertGreater(done, 50)

    def test_ends_by_the_word_that_makes_its_saying(self):
        makers = {"some": ("such",), "and": ("both",), "or": ("this", "that"), "if": ("lets",), "all": ("for",)}
        seen = {}
        for seed in range(300):
            maker = Maker(seed + 1500)
            ground = maker.true((), 3)
            for _ in range(maker.chance.randrange(4)):
                ground = maker.detour(ground, set(), 2)
            for name in open_names(ground):
                ground = named(ground, name, num(maker.chance.randrange(3)))
            saying, givens = grounded(ground)
            self.assertEqual(givens, ())
            if saying[0] in makers:
                told = straight(ground, limit=1000)
                self.assertIn(told[0], makers[saying[0]])
                seen[saying[0]] = seen.get(saying[0], 0) + 1
                if saying[0] == "some" and not has_from(judged(yielded(ground))[0]):
                    number = run(yielded(ground), {})
                    shown = worth(told[2], {})
                    self.assertEqual(shown, number if type(number) is int else number[0])
        for word in makers:
            self.assertGreater(seen[word], 10, seen)

    def test_halves(self):
        for n in range(9):
            for term in (num(n), ("plus", num(n), ("times", ONE, NOUGHT))):
                told = straight(halves(term), limit=1000)
                self.assertEqual(told[0], "such")
                self.assertEqual(worth(told[2], {}), n // 2)
                self.assertEqual(told[3][0], "that" if n % 2 else "this")
                self.assertEqual(grounded(told), grounded(halves(term)))
        told = straight(("at", ("for", "x", halves(X)), ("times", num(2), num(3))), limit=1000)
        self.assertEqual(worth(told[2], {}), 3)
        self.assertEqual(detours(straight(halves(X))), [])
        self.assertEqual(grounded(straight(("for", "x", halves(X)))), (("all", HALVES), ()))

    def test_contraries(self):
        ground = ("twice", ("lets", "u", ("if", A, NO), ("uses", ("given", "u", ("if", A, NO)), padded(P, 3))))
        self.assertEqual(straight(ground, limit=3), ("twice", ("lets", "u", ("if", A, NO), (
            "uses", ("given", "u", ("if", A, NO)), P))))

    def test_settled_ones(self):
        for saying in [("same", num(3), num(5)), ("and", ("same", ONE, ONE), ("same", ONE, NOUGHT)),
                       ("if", ("same", ONE, NOUGHT), NO)]:
            word, ground = settled(saying)
            told = straight(ground, limit=1000)
            self.assertEqual(grounded(told), grounded(ground))
            self.assertEqual(detours(told), [])


def used_often(many):
    """A ground of A in which the given u stands so many times."""
    rows = [("given", "u", A)] * many
    while len(rows) > 1:
        joined = [("cases", ("given", "o", ("or", A, A)), "v", rows[k], "w", rows[k + 1])
                  for k in range(0, len(rows) - 1, 2)]
        rows = joined + rows[len(rows) - len(rows) % 2:]
    return rows[0]


class Greater(unittest.TestCase):
    def too_many(self, ground):
        grounded(ground)
        with self.assertRaises(TooMany):
            straight(ground, limit=10 ** 6)

    def test_more_than_two_thousand_pieces(self):
        first = ("first", ("given", "j", ("and", A, A)))
        for _ in range(11):
            first = ("uses", ("given", "i", ("if", A, A)), first)
        self.assertEqual(pieces(first), 24)
        body = used_often(77)
        self.assertEqual(pieces(body), 77 + 2 * 76)
        # 24 pieces for each of the 77 labels, and 2 for each of the 76 cases.
        told = straight(("uses", ("lets", "u", A, body), first))
        self.assertEqual((pieces(told), grounded(told)[0]), (2000, A))
        self.too_many(("uses", ("lets", "u", A, ("for", "z", body)), first))
        self.too_many(("uses", ("lets", "u", A, ("put", ("equal", X), ("same", B0, ONE), body)), first))
        # It is refused where it comes, though it would become less by a detour further in.
        less = ("put", ("equal", X), ("same", B0, ONE), ("second", ("both", ("given", "u", A), body)))
        self.too_many(("uses", ("lets", "u", A, ("both", ("for", "z", body), less)), first))

    def test_further_than_a_hundred_within_one_another(self):
        for more, fits in [(0, True), (1, False)]:
            rule = ("lets", "u", A, within("u", 50))
            ground = ("uses", rule, within("p", 51 + more))
            if fits:
                self.assertEqual(straight(ground, limit=1), within_of(within("p", 51), 50))
            else:
                self.too_many(ground)

    def test_sayings_of_more_than_four_hundred_pieces(self):
        # What is said at the end stays small; on the way a part of it comes to say more.
        inner = ("first", ("both", P_, ("both", ("equal", X), ("equal", X))))
        self.assertEqual(straight(("at", ("for", "x", inner), ONE)), P_)
        for leaves, fits in [(49, True), (50, False)]:
            # Two equations of two terms of 2 n - 1 pieces each, and another equation of three, in two ands.
            ground = ("at", ("for", "x", inner), bush("plus", ONE, leaves))
            self.assertEqual(2 * (2 * (2 * leaves - 1) + 1) + 3 + 2 <= 400, fits)
            if fits:
                self.assertEqual(straight(ground), P_)
            else:
                self.too_many(ground)

    def test_terms_of_more_than_four_hundred_pieces(self):
        term = bush("plus", ONE, 80)
        inner = ("such", TRUE_, ("times", X, ("times", X, X)), ("equal", NOUGHT))
        self.too_many(("at", ("for", "x", inner), term))
        self.assertEqual(straight(("at", ("for", "x", inner), ONE)),
                         ("such", TRUE_, ("times", ONE, ("times", ONE, ONE)), ("equal", NOUGHT)))

    def test_climbs_that_go_too_far_down(self):
        self.too_many(halves(num(10 ** 9)))
        self.too_many(("climb", TRUE_, ("equal", NOUGHT), "x", "u", ("first", ("both", ("given", "u", TRUE_), P_)),
                       num(10 ** 50)))


TRUE_ = ("same", NOUGHT, NOUGHT)
P_ = ("reckoned", ONE, ONE)


def pieces(ground):
    return 1 + sum(pieces(part) for part in ground[1:] if isinstance(part, tuple) and part[0] in WORDS)


WORDS = ("given", "lets", "uses", "both", "first", "second", "cases", "put", "equal", "for")


def within(label, many):
    """A ground of A of so many within one another, the innermost a given by the label."""
    ground = ("given", label, A)
    return within_of(ground, many)


def within_of(ground, many):
    for _ in range(many - 1):
        ground = ("uses", ("given", "i", ("if", A, A)), ground)
    return ground


class Refusals(unittest.TestCase):
    def test_no_ground(self):
        for thing, place in [(("first", ("both", P, ("uses", P, Q))), (0, 1)), (("first", P), ())]:
            for limit in (0, 200):
                with self.assertRaises(NoGround) as held:
                    straight(thing, limit=limit)
                self.assertEqual((held.exception.place, held.exception.word), (place, "saying"))
        for thing in ODD + [tower("twice", P, 101), nested(P, 290, list)]:
            with self.assertRaises(NoGround) as held:
                straight(thing)
            self.assertEqual((held.exception.place, held.exception.word), ((), "form"))

    def test_by_name(self):
        self.assertEqual(straight(limit=1, ground=padded(P, 1)), P)
        with self.assertRaises(TypeError):
            straight(P, 3)

    def test_some_number(self):
        ground = ("at", ("for", "x", ("such", ("same", B0, X), X, ("equal", X))), num(4))
        self.assertEqual(straight(ground), ("such", ("same", B0, num(4)), num(4), ("equal", num(4))))


if __name__ == "__main__":
    unittest.main()
