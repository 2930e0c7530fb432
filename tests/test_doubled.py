"""Points 19 and 20: sayings and grounds doubled by a wish."""

import unittest

from prooffruit.doubled import doubled, doubled_ground, stable
from prooffruit.errors import NoGround
from prooffruit.grounds import is_plain
from prooffruit.judge import grounded
from prooffruit.putting import open_names
from prooffruit.sayings import put_for, put_in
from tests.contraries import by_contraries, either_or_not, given, without_limits
from tests.making import LABELS, Maker
from tests.samples import B0, B1, B2, NO, NOUGHT, ODD, ONE, TRUE, X, Y, nested, tower
from tests.test_promise import halves

Z = ("name", "z")
A = ("same", X, ONE)
B = ("same", Y, NOUGHT)
E = ("same", B0, X)

WISHES = [NO, ("same", ("name", "w"), ("name", "wish")), ("some", ("same", B0, ("plus", ("name", "w"), ONE))),
          ("all", NO),
          ("and", NO, ("or", ("same", ("name", "w"), NOUGHT), ("if", NO, NO))), ("all", ("some", ("same", B0, B1)))]
W = ("some", ("same", B0, ("name", "w")))


def so(saying, wish=W):
    return ("if", saying, wish)


class Doubled(unittest.TestCase):
    def test_each_word(self):
        for wish in WISHES:
            a, b = so(so(A, wish), wish), so(so(B, wish), wish)
            for saying, due in [
                (NO, wish), (A, a), (TRUE, so(so(TRUE, wish), wish)), (("and", A, B), ("and", a, b)),
                (("if", A, B), ("if", a, b)), (("or", A, B), so(("and", so(a, wish), so(b, wish)), wish)),
                (("if", A, NO), ("if", a, wish)), (("or", NO, A), so(("and", so(wish, wish), so(a, wish)), wish)),
                (("all", E), ("all", so(so(E, wish), wish))),
                (("some", E), so(("all", so(so(so(E, wish), wish), wish)), wish)), (("all", NO), ("all", wish)),
                (("some", NO), so(("all", so(wish, wish)), wish)), (("all", A), ("all", a)),
            ]:
                self.assertEqual(doubled(saying, wish), due)

    def test_within_one_another(self):
        inner = ("some", ("same", ("plus", B0, B1), B2))
        equation = so(so(inner[1]))
        self.assertEqual(doubled(("all", ("some", inner)), W),
                         ("all", so(("all", so(so(("all", so(equation)))))),))
        self.assertEqual(doubled(("all", ("all", inner)), W), ("all", ("all", so(("all", so(equation))))))
        self.assertEqual(doubled(("and", ("or", NO, NO), ("if", ("and", NO, A), NO)), W),
                         ("and", so(("and", so(W), so(W))), ("if", ("and", W, so(so(A))), W)))

    def test_of_what_is_put_in(self):
        for seed in range(60):
            maker = Maker(seed)
            body = ("all", maker.saying(("x", "y"), 3))[1]
            for wish in WISHES:
                term = maker.term(("a", "b"))
                self.assertEqual(doubled(put_for(body, "x", term), wish), put_for(doubled(body, wish), "x", term))

    def test_great_ones(self):
        deep = tower("all", ("some", A), 59)
        self.assertEqual(doubled(deep, W), tower("all", doubled(("some", A), W), 59))
        self.assertEqual(doubled(tower("some", NO, 60), NO)[0], "if")

    def test_by_name(self):
        self.assertEqual(doubled(wish=W, saying=NO), W)
        self.assertEqual(grounded(stable(wish=W, saying=NO)), (so(so(so(W)), W), ()))
        self.assertEqual(doubled_ground(wish=W, ground=("for", "x", ("equal", X))), doubled_ground(
            ("for", "x", ("equal", X)), W))


def due_of_stable(saying, wish):
    twice = doubled(saying, wish)
    return ("if", so(so(twice, wish), wish), twice)


class Stable(unittest.TestCase):
    def check(self, saying, wish):
        told = stable(saying, wish)
        self.assertIs(is_plain(told), True)
        self.assertEqual(without_limits(grounded, told), (due_of_stable(saying, wish), ()), (saying, wish))
        return told

    def test_each_word(self):
        for wish in WISHES:
            for saying in [NO, A, TRUE, ("and", A, B), ("if", A, B), ("or", A, B), ("all", E), ("some", E), ("all", A),
                           ("and", NO, NO), ("if", NO, NO), ("all", NO), ("some", NO), ("or", NO, NO)]:
                told = self.check(saying, wish)
                self.assertEqual(grounded(told)[0], due_of_stable(saying, wish))

    def test_within_one_another(self):
        for wish in WISHES:
            for saying in [("all", ("all", ("and", ("same", B0, B1), ("all", ("same", B0, B2))))),
                           ("and", ("all", ("and", E, NO)), ("if", A, ("and", B, ("all", ("or", E, A))))),
                           ("if", ("if", ("if", A, NO), NO), ("if", ("all", E), ("some", ("all", ("same", B1, B0))))),
                           ("all", ("if", E, ("all", ("if", ("same", B0, B1), ("and", E, ("same", B0, B1)))))),
                           ("and", ("and", ("and", A, B), ("and", NO, A)), ("and", B, ("and", NO, NO)))]:
                self.check(saying, wish)

    def test_names_that_stand_in_both(self):
        # The names that come to be closed aren't those that stand in the saying or in the wish.
        for word in "abcdefghijk":
            name = ("name", word)
            self.check(("all", ("if", ("same", B0, name), ("all", ("same", B0, B1)))), ("same", ("name", "b"), name))
        many = TRUE
        for word in "abcdefghijklmnopqrstuvwxyz":
            many = ("if", ("same", ("name", word), NOUGHT), many)
        self.check(("all", ("all", ("and", ("same", B0, B1), many))), ("some", ("same", B0, ("name", "aa"))))

    def test_by_chance(self):
        for seed in range(150):
            maker = Maker(seed + 40)
            for wish in WISHES:
                self.check(maker.saying(("x", "y", "a", "b"), 3), wish)

    def test_great_ones(self):
        self.check(tower("all", A, 60), W)
        self.check(tower("some", A, 60), W)
        chain = A
        for _ in range(58):
            chain = ("if", B, chain)
        self.check(chain, NO)
        row = A
        for _ in range(50):
            row = ("and", row, A)
        self.check(row, W)


P, Q = given("p", A), given("q", B)
BODY = ("some", ("same", B0, ("plus", B1, ONE)))


def climb(term):
    start = ("such", put_in(BODY, NOUGHT)[1], ("plus", NOUGHT, ONE), ("equal", ("plus", NOUGHT, ONE)))
    more = ("plus", ("next", X), ONE)
    turn = ("such", put_in(BODY, ("next", X))[1], more, ("equal", more))
    return ("climb", BODY, start, "x", "u", ("open", given("u", put_in(BODY, X)), "y", "v", turn), term)


# A ground of each word, with givens, so that it can't stand as it is.
GROUNDS = [
    P, given("u", NO), given("u", ("all", ("some", ("same", B0, B1)))), ("lets", "u", A, ("both", given("u", A), Q)),
    ("lets", "u", ("or", A, B), Q), ("uses", given("i", ("if", A, B)), P), ("both", P, Q),
    ("first", given("u", ("and", A, B))), ("second", given("u", ("and", A, B))), ("this", P, B), ("that", B, P),
    ("this", P, ("all", E)), ("that", ("some", E), P),
    ("cases", given("o", ("or", A, B)), "u", ("that", B, given("u", A)), "v", ("this", given("v", B), A)),
    ("cases", given("o", ("or", A, B)), "u", ("both", Q, given("u", A)), "v",
     ("both", given("v", B), ("absurd", given("n", NO), A))),
    ("cases", given("o", ("or", A, A)), "u", given("u", A), "v", P),
    ("cases", given("o", ("or", A, B)), "p", ("absurd", given("n", NO), NO), "q", given("n", NO)),
    ("for", "z", ("both", P, ("equal", Z))), ("at", given("u", ("all", E)), Y),
    ("at", given("u", ("all", ("all", ("same", B0, B1)))), ("plus", X, Y)),
    ("such", ("same", B0, ONE), X, P), ("such", A, Z, P),
    ("open", given("s", ("some", E)), "y", "u", ("such", E, Y, given("u", ("same", Y, X)))),
    ("open", given("s", ("some", E)), "z", "u", ("both", P, ("lets", "v", A, Q))),
    ("open", given("s", ("some", NO)), "z", "u", ("absurd", given("u", NO), ("all", ("and", A, E)))),
    ("absurd", given("n", NO), A), ("absurd", given("n", NO), NO), ("absurd", given("n", NO), ("or", A, B)),
    ("absurd", given("n", NO), ("some", E)), ("absurd", given("n", NO), ("all", ("and", E, ("if", A, ("and", B, NO))))),
    ("absurd", ("uses", given("i", ("if", A, NO)), P), ("and", ("and", A, B), ("and", B, A))),
    ("equal", X), ("reckoned", ONE, ("next", NOUGHT)), ("sums", 0, X, Y), ("sums", 1, X, Y), ("sums", 2, X, Y),
    ("sums", 3, X, Y),
    ("put", given("e", ("same", X, Y)), ("same", B0, ONE), P),
    ("put", given("e", ("same", X, Y)), ("and", ("same", B0, ONE), NO), ("both", P, given("n", NO))),
    ("put", given("e", ("same", X, Y)), ("all", ("some", ("same", ("plus", B0, B1), B2))),
     given("g", ("all", ("some", ("same", ("plus", B0, B1), X))))),
    ("put", ("sums", 0, X, Y), ("or", NO, ("same", B0, ONE)),
     given("g", ("or", NO, ("same", ("plus", X, NOUGHT), ONE)))),
    ("down", given("u", ("same", ("next", X), ("next", Y)))), ("never", given("u", ("same", ("next", X), NOUGHT))),
    climb(Z), climb(("num", 3)),
    ("climb", ("and", ("same", B0, Z), NO), given("a", ("and", ("same", NOUGHT, Z), NO)), "x", "u",
     ("both", ("absurd", ("second", given("u", ("and", ("same", X, Z), NO))), ("same", ("next", X), Z)),
      ("second", given("u", ("and", ("same", X, Z), NO)))), Y),
    ("climb", A, P, "y", "u", given("u", A), Z),
    ("twice", given("t", ("if", ("if", A, NO), NO))), ("twice", given("t", ("if", ("if", NO, NO), NO))),
    ("twice", given("t", ("if", ("if", ("and", A, ("or", A, B)), NO), NO))),
    ("twice", given("t", ("if", ("if", ("all", ("if", E, ("and", A, B))), NO), NO))),
    by_contraries(P), by_contraries(by_contraries(P, "a"), "b"), by_contraries(("such", E, X, ("equal", X))),
    either_or_not(A), either_or_not(("some", E)), either_or_not(("all", ("or", E, NO))), halves(Z),
    by_contraries(halves(Z)), ("for", "z", by_contraries(halves(Z))),
]


class OfGrounds(unittest.TestCase):
    def check(self, ground, wish):
        told = doubled_ground(ground, wish)
        saying, givens = grounded(ground)
        self.assertIs(is_plain(told), True)
        new_saying, new_givens = without_limits(grounded, told)
        self.assertEqual(new_saying, doubled(saying, wish), (ground, wish))
        self.assertLessEqual(set(new_givens), {(label, doubled(needs, wish)) for label, needs in givens}, ground)
        return told

    def test_each_word(self):
        for ground in GROUNDS:
            for wish in WISHES + [W]:
                self.check(ground, wish)

    def test_within_one_another(self):
        for ground in GROUNDS:
            for outer in [("both", given("g", ("some", B)), ground), ("lets", "p", A, ground),
                          ("this", ground, ("some", E)),
                          by_contraries(ground, "k")]:
                try:
                    grounded(outer)
                except NoGround:
                    continue
                self.check(outer, W)
                self.check(("cases", given("oo", ("or", A, A)), "aa", outer, "bb", outer), W)

    def test_labels_and_names_stay(self):
        told = self.check(given("label", ("or", A, B)), W)
        self.assertEqual(told, given("label", doubled(("or", A, B), W)))
        for label in LABELS + ["k", "d", "e", "f", "abcdefgh"]:
            self.check(("cases", given(label, ("or", A, A)), "u", given("u", A), "v", given("v", A)), W)
        self.check(("both", given("abcdefgh", ("same", ("name", "abcdefgh"), X)), given("zzzzzzzz", A)), W)

    def test_closed_names_and_labels(self):
        for word in ["a", "b", "c", "d", "e", "abcdefgh"]:
            name = ("name", word)
            ground = ("for", word, ("lets", word, ("same", name, X), ("this", given(word, ("same", name, X)), NO)))
            self.check(ground, W)
            self.check(("cases", given("o", ("or", A, A)), word, P, word, given(word, A)), W)
            shown = ("such", E, name, given(word, ("same", name, X)))
            self.check(("open", given(word, ("some", E)), word, word, shown), W)
            self.check(("both", given("a", A), ("for", "a", ("both", ("equal", ("name", "a")), given("b", B)))), W)
            # A closed name may be one of the wish's: it is closed, so it isn't that one.
            self.check(ground, ("same", name, NOUGHT))
            self.check(ground, ("same", ("plus", name, ("name", "a")), ("plus", ("name", "b"), ("name", "c"))))
            self.check(("for", "y", ("for", word, ("both", P, ("equal", name)))), ("same", name, ("name", "a")))

    def test_by_chance(self):
        for seed in range(150):
            ground = Maker(seed + 60, plain=seed % 2 > 0).ground(size=3, detours=3)
            for wish in WISHES:
                self.check(ground, wish)

    def test_where_nothing_may_stand_as_it_is(self):
        # A given of no around the whole: so each piece of it is doubled by itself.
        done = 0
        for seed in range(120):
            maker = Maker(seed + 90, plain=seed % 2 > 0)
            ground = opened_up(maker.ground(size=3, detours=3))
            done += len(grounded(ground)[1]) > 0
            for wish in WISHES[:3]:
                self.check(ground, wish)
        self.assertGreater(done, 100)

    def test_names_open_are_those_of_both(self):
        for ground in GROUNDS:
            names = set(open_names(doubled_ground(ground, W)))
            self.assertLessEqual(names, {*open_names(ground), "w"})

    def test_no_ground(self):
        wrong = ("first", ("both", P, ("uses", P, Q)))
        with self.assertRaises(NoGround) as held:
            doubled_ground(wrong, W)
        self.assertEqual((held.exception.place, held.exception.word), ((0, 1), "saying"))
        for thing in ODD + [tower("twice", P, 101), nested(P, 290, tuple)]:
            with self.assertRaises(NoGround) as held:
                doubled_ground(thing, W)
            self.assertEqual((held.exception.place, held.exception.word), ((), "form"))


def opened_up(ground):
    """A ground in which each that has no grounds stands on givens."""
    if ground[0] in ("equal", "reckoned", "sums"):
        return given("gg" + word_of(ground), grounded(ground)[0])
    parts = [opened_up(part) if isinstance(part, tuple) and part[0] in WORDS else part for part in ground]
    try:
        grounded(tuple(parts))
    except NoGround:
        # A name is closed around the given.
        return ground
    return tuple(parts)


WORDS = {piece[0] for piece in GROUNDS} | {"this", "that"}
LETTERS = "abcdefghijklmnopqrstuvwxyz"


def word_of(ground):
    """A label for a ground, another one for each saying."""
    number = sum(ord(sign) * (at + 7) for at, sign in enumerate(repr(grounded(ground)[0])))
    word = ""
    for _ in range(6):
        word += LETTERS[number % 26]
        number //= 26
    return word


if __name__ == "__main__":
    unittest.main()
