import unittest

from prooffruit.errors import GroundError, NoGround
from prooffruit.grounds import parts_of
from prooffruit.judge import grounded
from prooffruit.sayings import is_saying
from tests import oracle
from tests.making import Maker, spoiled, swapped
from tests.samples import B0, B1, GREAT, NO, NOUGHT, ODD, ONE, TRUE, X, Y, bush, nested, shared, tower

A = ("same", X, ONE)
B = ("same", Y, NOUGHT)
C = ("all", ("same", B0, B0))
BODY = ("same", B0, Y)
Z = ("name", "z")
GREATEST = ("num", GREAT - 1)


def given(label, saying):
    return ("given", label, saying)


# Of grounds of every word: what they ground and from which givens.
RIGHT = [
    (given("u", A), A, {"u": A}),
    (("lets", "u", A, given("v", B)), ("if", A, B), {"v": B}),
    (("uses", given("u", ("if", A, B)), given("v", A)), B, {"u": ("if", A, B), "v": A}),
    (("both", given("v", A), given("u", B)), ("and", A, B), {"u": B, "v": A}),
    (("first", given("u", ("and", A, B))), A, {"u": ("and", A, B)}),
    (("second", given("u", ("and", A, B))), B, {"u": ("and", A, B)}),
    (("this", given("u", A), B), ("or", A, B), {"u": A}),
    (("that", A, given("u", B)), ("or", A, B), {"u": B}),
    (("cases", given("p", ("or", A, B)), "u", given("q", C), "v", given("r", C)), C,
     {"p": ("or", A, B), "q": C, "r": C}),
    (("for", "x", given("u", B)), ("all", B), {"u": B}),
    (("for", "z", ("equal", ("plus", Z, X))), ("all", ("same", ("plus", B0, X), ("plus", B0, X))), {}),
    (("at", given("u", ("all", ("some", ("same", B0, B1)))), ("next", X)), ("some", ("same", B0, ("next", X))),
     {"u": ("all", ("some", ("same", B0, B1)))}),
    (("such", BODY, X, given("u", ("same", X, Y))), ("some", BODY), {"u": ("same", X, Y)}),
    (("open", given("u", ("some", BODY)), "x", "v", given("w", C)), C, {"u": ("some", BODY), "w": C}),
    (("absurd", given("u", NO), A), A, {"u": NO}),
    (("equal", ("next", X)), ("same", ("next", X), ("next", X)), {}),
    (("put", given("u", ("same", X, Z)), BODY, given("v", ("same", X, Y))), ("same", Z, Y),
     {"u": ("same", X, Z), "v": ("same", X, Y)}),
    (("reckoned", ("times", ("num", 2), ("num", 3)), ("next", ("num", 5))),
     ("same", ("times", ("num", 2), ("num", 3)), ("next", ("num", 5))), {}),
    (("sums", 0, X, Y), ("same", ("plus", X, NOUGHT), X), {}),
    (("sums", 0, X, ONE), ("same", ("plus", X, NOUGHT), X), {}),
    (("sums", 1, X, Y), ("same", ("plus", X, ("next", Y)), ("next", ("plus", X, Y))), {}),
    (("sums", 2, X, Y), ("same", ("times", X, NOUGHT), NOUGHT), {}),
    (("sums", 2, X, ("next", NOUGHT)), ("same", ("times", X, NOUGHT), NOUGHT), {}),
    (("sums", 3, X, Y), ("same", ("times", X, ("next", Y)), ("plus", ("times", X, Y), X)), {}),
    (("down", given("u", ("same", ("next", X), ("next", Y)))), ("same", X, Y),
     {"u": ("same", ("next", X), ("next", Y))}),
    (("never", given("u", ("same", ("next", X), NOUGHT))), NO, {"u": ("same", ("next", X), NOUGHT)}),
    (("climb", B, given("u", B), "x", "v", given("w", B), Z), B, {"u": B, "w": B}),
    (("climb", BODY, given("u", ("same", NOUGHT, Y)), "x", "v",
      ("absurd", given("w", NO), ("same", ("next", X), Y)), ("plus", X, X)),
     ("same", ("plus", X, X), Y), {"u": ("same", NOUGHT, Y), "w": NO}),
    (("twice", given("u", ("if", ("if", A, NO), NO))), A, {"u": ("if", ("if", A, NO), NO)}),
]


def told(thing):
    """(place, word) by which a thing is refused, or None where it isn't."""
    try:
        grounded(thing)
    except NoGround as refusal:
        return refusal.place, refusal.word
    return None


class Right(unittest.TestCase):
    def test_every_word(self):
        for ground, saying, givens in RIGHT:
            self.assertEqual(grounded(ground), (saying, tuple(sorted(givens.items()))), ground)

    def test_every_word_is_there(self):
        self.assertEqual(sorted({ground[0] for ground, _, _ in RIGHT}), sorted(oracle.GROUND_FORMS))

    def test_what_is_told_is_of_tuples(self):
        for ground, _, _ in RIGHT:
            both = grounded(ground)
            self.assertIsInstance(both, tuple)
            self.assertIsInstance(both[1], tuple)
            for given_row in both[1]:
                self.assertIsInstance(given_row, tuple)

    def test_by_rising_labels(self):
        labels = ["v", "b", "zz", "a", "ab", "aa", "z", "u"]
        ground = given("m", A)
        for label in labels:
            ground = ("both", ground, given(label, A))
        self.assertEqual([label for label, _ in grounded(ground)[1]],
                         ["a", "aa", "ab", "b", "m", "u", "v", "z", "zz"])

    def test_one_label_twice_for_one_saying(self):
        self.assertEqual(grounded(("both", given("u", A), given("u", A))), (("and", A, A), (("u", A),)))

    def test_by_name(self):
        self.assertEqual(grounded(thing=("equal", X))[0], ("same", X, X))


class Closed(unittest.TestCase):
    def test_lets(self):
        self.assertEqual(grounded(("lets", "u", A, given("u", A))), (("if", A, A), ()))
        both = ("both", given("u", A), given("v", A))
        self.assertEqual(grounded(("lets", "v", A, both))[1], (("u", A),))

    def test_cases(self):
        ground = ("cases", given("p", ("or", A, B)), "u", ("absurd",
                                                           ("uses", given("n", ("if", A, NO)), given("u", A)), C),
                  "v", ("absurd", ("uses", given("m", ("if", B, NO)), given("v", B)), C))
        self.assertEqual(grounded(ground), (C, (("m", ("if", B, NO)), ("n", ("if", A, NO)), ("p", ("or", A, B)))))

    def test_cases_of_one_label(self):
        ground = ("cases", given("u", ("or", A, A)), "u", given("u", A), "u", given("u", A))
        self.assertEqual(grounded(ground), (A, (("u", ("or", A, A)),)))

    def test_cases_close_each_in_its_own_ground(self):
        ground = ("cases", given("p", ("or", A, A)), "u", given("v", A), "v", given("u", A))
        self.assertEqual(grounded(ground), (A, (("p", ("or", A, A)), ("u", A), ("v", A))))

    def test_cases_do_not_close_in_the_first(self):
        ground = ("cases", ("this", given("u", A), A), "u", given("u", A), "u", given("u", A))
        self.assertEqual(grounded(ground), (A, (("u", A),)))

    def test_open(self):
        inner = ("such", BODY, X, given("u", ("same", X, Y)))
        ground = ("open", given("p", ("some", BODY)), "x", "u", inner)
        self.assertEqual(grounded(ground), (("some", BODY), (("p", ("some", BODY)),)))
        ground = ("open", given("u", ("some", BODY)), "x", "u", inner)
        self.assertEqual(grounded(ground), (("some", BODY), (("u", ("some", BODY)),)))

    def test_climb(self):
        body = ("some", ("same", B0, ("plus", B1, B1)))
        start = ("such", ("same", B0, ("plus", NOUGHT, NOUGHT)), ("plus", NOUGHT, NOUGHT),
                 ("equal", ("plus", NOUGHT, NOUGHT)))
        sum_next = ("plus", ("next", X), ("next", X))
        turn = ("such", ("same", B0, sum_next), sum_next, ("equal", sum_next))
        at_x = ("some", ("same", B0, ("plus", X, X)))
        uses = ("second", ("both", given("u", at_x), turn))
        for q in (turn, uses):
            ground = ("climb", body, start, "x", "u", q, Y)
            self.assertEqual(grounded(ground), (("some", ("same", B0, ("plus", Y, Y))), ()))

    def test_climb_does_not_close_in_the_first(self):
        ground = ("climb", B, given("u", B), "x", "u", given("u", B), Y)
        self.assertEqual(grounded(ground), (B, (("u", B),)))

    def test_a_label_that_is_not_open(self):
        for ground in [("lets", "w", A, given("u", B)),
                       ("cases", given("p", ("or", A, B)), "w", given("u", C), "ww", given("u", C)),
                       ("open", given("p", ("some", BODY)), "x", "w", given("u", C)),
                       ("climb", B, given("p", B), "x", "w", given("p", B), X)]:
            self.assertIsNone(told(ground), ground)
            self.assertNotIn("w", dict(grounded(ground)[1]))

    def test_again_within_one_another(self):
        ground = ("lets", "u", A, ("lets", "u", A, given("u", A)))
        self.assertEqual(grounded(ground), (("if", A, ("if", A, A)), ()))
        ground = ("lets", "u", B, ("lets", "u", A, given("u", A)))
        self.assertEqual(grounded(ground), (("if", B, ("if", A, A)), ()))

    def test_closed_for_another_saying(self):
        some = given("p", ("some", BODY))
        for ground in [
            ("lets", "u", A, given("u", B)),
            ("cases", given("p", ("or", A, B)), "u", given("u", C), "v", given("r", C)),
            ("cases", given("p", ("or", A, B)), "v", given("r", C), "u", given("u", C)),
            ("open", some, "x", "u", ("first", ("both", given("w", C), given("u", BODY[:1] + (Z, Y))))),
            ("open", some, "x", "u", given("u", C)),
            ("climb", B, given("p", B), "x", "u", ("first", ("both", given("p", B), given("u", A))), X),
        ]:
            self.assertEqual(told(ground), ((), "given"), ground)

    def test_closed_in_one_ground_alone(self):
        ground = ("cases", given("p", ("or", A, B)), "u", ("absurd", given("n", NO), B), "v", given("u", B))
        self.assertEqual(grounded(ground)[1], (("n", NO), ("p", ("or", A, B)), ("u", B)))

    def test_two_sayings_for_a_label(self):
        a, b = given("u", A), given("u", B)
        rule = given("u", ("if", A, B))
        for ground in [
            ("both", a, b), ("both", ("first", ("both", a, a)), ("second", ("both", b, b))), ("uses", rule, a),
            ("cases", given("u", ("or", A, B)), "v", given("u", C), "w", given("u", C)),
            ("cases", given("p", ("or", C, C)), "v", ("first", ("both", given("p", A), a)), "w", given("q", A)),
            ("open", given("u", ("some", BODY)), "x", "v", given("u", C)),
            ("put", given("u", ("same", X, X)), ("same", B0, Y), given("u", ("same", X, Y))),
            ("climb", B, given("u", B), "x", "v", ("absurd", given("u", NO), B), X),
        ]:
            self.assertEqual(told(ground), ((), "given"), ground)

    def test_two_sayings_meet_in_each_two_grounds(self):
        p, q, r = (("second", ("both", given(label, saying), given(word, ("or", C, C) if word == "p" else C)))
                   for label, saying, word in [("u", A, "p"), ("u", B, "q"), ("u", B, "r")])
        like = ("second", ("both", given("u", A), given("q", C)))
        like_r = ("second", ("both", given("u", A), given("r", C)))
        self.assertIsNone(told(("cases", p, "v", like, "w", like_r)))
        self.assertEqual(told(("cases", p, "v", q, "w", r)), ((), "given"))
        self.assertEqual(told(("cases", p, "v", q, "w", like_r)), ((), "given"))
        self.assertEqual(told(("cases", p, "v", like, "w", r)), ((), "given"))
        free = given("p", ("or", C, C))
        self.assertIsNone(told(("cases", free, "v", q, "w", r)))
        self.assertEqual(told(("cases", free, "v", q, "w", like_r)), ((), "given"))


class Names(unittest.TestCase):
    def test_for(self):
        self.assertEqual(told(("for", "x", given("u", A))), ((), "name"))
        self.assertEqual(told(("for", "x", ("second", ("both", given("u", A), ("equal", X))))), ((), "name"))
        self.assertEqual(told(("for", "x", ("lets", "v", B, ("lets", "u", B, given("v", B))))), None)
        self.assertEqual(grounded(("for", "x", ("lets", "u", A, given("u", A))))[0],
                         ("all", ("if", ("same", B0, ONE), ("same", B0, ONE))))

    def test_a_name_that_stands_nowhere(self):
        self.assertEqual(grounded(("for", "q", given("u", A))), (("all", A), (("u", A),)))
        self.assertEqual(grounded(("open", given("p", ("some", BODY)), "q", "u", ("equal", X)))[0], ("same", X, X))
        self.assertEqual(grounded(("climb", B, given("p", B), "q", "u", given("u", B), X))[0], B)

    def test_for_takes_the_name_away_everywhere(self):
        ground = ("for", "x", ("for", "y", ("equal", ("plus", X, Y))))
        self.assertEqual(grounded(ground)[0], ("all", ("all", ("same", ("plus", B1, B0), ("plus", B1, B0)))))

    def test_open(self):
        some = given("p", ("some", BODY))
        self.assertEqual(told(("open", some, "x", "u", given("u", ("same", X, Y)))), ((), "name"))
        self.assertEqual(told(("open", some, "y", "u", ("equal", Z))), ((), "name"))
        self.assertEqual(told(("open", some, "x", "u", ("second", ("both", given("v", A), ("equal", Z))))),
                         ((), "name"))
        self.assertEqual(told(("open", some, "x", "u", ("second", ("both", given("u", ("same", X, Y)), ("equal", Z))))),
                         None)
        # Where it stands in a given of the first ground alone, that is let by.
        some = ("second", ("both", given("v", A), some))
        self.assertEqual(told(("open", some, "x", "u", ("equal", Z))), None)

    def test_climb(self):
        at_next = ("same", ("next", X), Y)
        turn = ("absurd", given("n", NO), at_next)
        start = given("p", ("same", NOUGHT, Y))
        self.assertEqual(told(("climb", BODY, start, "x", "u", turn, X)), None)
        self.assertEqual(told(("climb", BODY, start, "x", "u", ("second", ("both", given("u", ("same", X, Y)), turn)),
                               X)),
                         None)
        self.assertEqual(told(("climb", BODY, start, "x", "u", ("second", ("both", given("v", A), turn)), X)),
                         ((), "name"))
        turn = ("absurd", given("n", NO), ("same", ("next", Y), Y))
        self.assertEqual(told(("climb", BODY, start, "y", "u", turn, X)), ((), "name"))
        # Where it stands in the term, or in a given of the first ground alone, that is let by.
        self.assertEqual(told(("climb", B, ("second", ("both", given("v", A), given("p", B))), "x", "u",
                               given("p", B), X)), None)
        self.assertEqual(told(("climb", ("same", B0, X), given("p", ("same", NOUGHT, X)), "x", "u",
                               ("absurd", given("n", NO), ("same", ("next", X), X)), Y)), ((), "name"))


class SayingsDue(unittest.TestCase):
    def refused(self, ground):
        self.assertEqual(told(ground), ((), "saying"), ground)

    def test_uses(self):
        rule = given("u", ("if", A, B))
        for ground in [("uses", rule, given("v", B)), ("uses", given("v", A), rule),
                       ("uses", given("u", ("and", A, B)), given("v", A)), ("uses", given("v", A), given("v", A))]:
            self.refused(ground)

    def test_halves(self):
        for word in ("first", "second"):
            for saying in (A, NO, ("or", A, A), ("if", A, A), ("all", A), ("some", A)):
                self.refused((word, given("u", saying)))

    def test_cases(self):
        self.refused(("cases", given("p", ("and", A, B)), "u", given("q", C), "v", given("q", C)))
        self.refused(("cases", given("p", ("or", A, B)), "u", given("q", C), "v", given("r", A)))
        self.refused(("cases", given("p", C), "u", given("q", C), "v", given("q", C)))

    def test_at(self):
        for saying in (A, NO, ("some", A), ("and", A, A)):
            self.refused(("at", given("u", saying), X))

    def test_such(self):
        for body, term, saying in [(BODY, Y, ("same", X, Y)), (BODY, X, ("same", Y, X)),
                                   (("same", B0, B0), X, BODY[:1] + (X, Y)),
                                   (("all", ("same", B0, B1)), X, ("all", ("same", X, B0)))]:
            self.refused(("such", body, term, given("u", saying)))

    def test_open(self):
        for saying in (A, NO, ("all", BODY), ("and", A, A), ("or", A, A)):
            self.refused(("open", given("p", saying), "z", "u", ("equal", X)))

    def test_absurd(self):
        for saying in (A, ("and", NO, NO), ("if", A, NO), ("all", NO)):
            self.refused(("absurd", given("p", saying), A))

    def test_put(self):
        p, q = given("p", ("same", X, Z)), given("q", ("same", X, Y))
        for ground in [("put", p, BODY, given("q", ("same", Z, Y))), ("put", q, BODY, p),
                       ("put", given("p", NO), BODY, q),
                       ("put", given("p", ("if", A, A)), A, given("q", A)), ("put", p, ("same", Z, B0), q)]:
            self.refused(ground)

    def test_put_takes_from_left_to_right(self):
        p = given("p", ("same", X, Z))
        self.assertEqual(grounded(("put", p, BODY, given("q", ("same", X, Y))))[0], ("same", Z, Y))
        self.assertEqual(grounded(("put", p, ("same", B0, X), given("q", ("same", X, X))))[0], ("same", Z, X))
        self.assertEqual(grounded(("put", p, ("same", B0, B0), given("q", ("same", X, X))))[0], ("same", Z, Z))
        self.assertEqual(grounded(("put", p, B, given("q", B)))[0], B)

    def test_down(self):
        for saying in [A, NO, ("same", X, ("next", Y)), ("same", ("next", X), Y), ("same", ONE, ONE), ("and", A, A),
                       ("same", ("num", 2), ("next", ONE)), ("if", NO, NO), ("all", NO), ("some", A)]:
            self.refused(("down", given("u", saying)))

    def test_never(self):
        for saying in [A, NO, ("same", X, NOUGHT), ("same", NOUGHT, ("next", X)), ("same", ONE, NOUGHT), ("or", A, A),
                       ("same", ("next", X), ONE), ("same", ("next", X), ("times", NOUGHT, X)), ("and", A, NO)]:
            self.refused(("never", given("u", saying)))

    def test_climb(self):
        p, q = given("p", ("same", NOUGHT, Y)), ("absurd", given("n", NO), ("same", ("next", X), Y))
        for ground in [("climb", BODY, q, "x", "u", q, X), ("climb", BODY, p, "x", "u", p, X),
                       ("climb", BODY, p, "z", "u", q, X), ("climb", BODY, given("p", ("same", ONE, Y)), "x", "u", q,
                                                            X),
                       ("climb", BODY, p, "x", "u", ("absurd", given("n", NO), ("same", X, Y)), X)]:
            self.refused(ground)

    def test_twice(self):
        for saying in [A, NO, ("if", A, NO), ("if", ("if", A, NO), A), ("if", ("if", A, B), NO),
                       ("if", ("and", A, NO), NO),
                       ("and", ("if", A, NO), NO), ("if", A, ("if", A, NO))]:
            self.refused(("twice", given("u", saying)))


class Numbers(unittest.TestCase):
    def test_reckoned(self):
        for t, s in [(NOUGHT, NOUGHT), (ONE, ("next", NOUGHT)), (("times", ("num", 3), ("num", 4)), ("num", 12)),
                     (GREATEST, ("plus", NOUGHT, GREATEST)), (("plus", ONE, ONE), ("times", ("num", 2), ONE))]:
            self.assertEqual(grounded(("reckoned", t, s)), (("same", t, s), ()))

    def test_unlike_worths(self):
        for t, s in [(NOUGHT, ONE), (ONE, NOUGHT), (("next", ONE), ONE), (GREATEST, NOUGHT)]:
            self.assertEqual(told(("reckoned", t, s)), ((), "number"))

    def test_with_names(self):
        for t, s in [(X, X), (NOUGHT, ("times", X, NOUGHT)), (("times", NOUGHT, X), NOUGHT),
                     (("plus", X, Y), ("plus", X, Y))]:
            self.assertEqual(told(("reckoned", t, s)), ((), "number"))

    def test_too_great(self):
        great = ("next", GREATEST)
        for t, s in [(great, great), (great, NOUGHT), (NOUGHT, great), (("times", NOUGHT, great), NOUGHT),
                     (("times", GREATEST, GREATEST), ("times", GREATEST, GREATEST)), (great, X), (X, great)]:
            self.assertEqual(told(("reckoned", t, s)), ((), "number"))


# Of each word: grounds whose form isn't right.
MALFORMED = [
    ("given",), ("given", "u"), ("given", "u", A, A), ("given", "u", X), ("given", "u", None), ("given", "u", ["no"]),
    ("given", "u", ("same", B0, X)), ("given", "U", A), ("given", "", A), ("given", "abcdefghi", A), ("given", 0, A),
    ("given", A, "u"), ("given", "u", ("equal", X)), ("given", "u", BODY),
    ("lets", "u", A), ("lets", "u", A, ("equal", X), NO), ("lets", "abcdefghi", A, ("equal", X)),
    ("lets", "u", BODY, ("equal", X)), ("lets", "u", X, ("equal", X)), ("lets", ("equal", X), "u", A),
    ("uses", ("equal", X)), ("uses", ("equal", X), ("equal", X), ("equal", X)),
    ("both", ("equal", X)), ("both", ("equal", X), ("equal", X), A), ("first",), ("first", ("equal", X), A),
    ("second",),
    ("second", ("equal", X), ("equal", X)), ("this", ("equal", X)), ("this", ("equal", X), BODY),
    ("this", NO, ("equal", X)), ("this", ("equal", X), NO, NO), ("that", ("equal", X)), ("that", BODY, ("equal", X)),
    ("that", ("equal", X), NO), ("cases", given("p", ("or", A, A)), "u", given("u", A), "v"),
    ("cases", given("p", ("or", A, A)), "u", given("u", A), "V", given("u", A)),
    ("cases", given("p", ("or", A, A)), "u1", given("u", A), "v", given("u", A)),
    ("cases", given("p", ("or", A, A)), given("u", A), given("u", A)),
    ("for", "x"), ("for", "", ("equal", X)), ("for", X, ("equal", X)), ("for", "x", ("equal", X), ("equal", X)),
    ("for", "abcdefghi", ("equal", X)), ("at", given("u", C)), ("at", given("u", C), B0),
    ("at", given("u", C), ("num", -1)),
    ("at", given("u", C), NO), ("at", given("u", C), ("num", GREAT)), ("at", given("u", C), "x"),
    ("such", BODY, X), ("such", ("same", B1, Y), X, given("u", A)), ("such", X, X, given("u", A)),
    ("such", BODY, B0, given("u", A)), ("such", BODY, X, given("u", A), A), ("such", BODY, A, given("u", A)),
    ("open", given("p", ("some", A)), "x", "u"), ("open", given("p", ("some", A)), "x", ("equal", X)),
    ("open", given("p", ("some", A)), "xX", "u", ("equal", X)), ("open", given("p", ("some", A)), "x", None,
        ("equal", X)),
    ("absurd", given("u", NO)), ("absurd", given("u", NO), BODY), ("absurd", A, given("u", NO)),
    ("equal",), ("equal", X, X), ("equal", B0), ("equal", NO), ("equal", None), ("equal", ["num", 0]),
    ("put", ("equal", X), BODY), ("put", ("equal", X), ("same", B1, B0), ("equal", X)),
    ("put", ("equal", X), X, ("equal", X)),
    ("reckoned", ONE), ("reckoned", ONE, B0), ("reckoned", A, ONE), ("reckoned", ONE, ONE, ONE), ("reckoned", 1, 1),
    ("sums",), ("sums", 0), ("sums", 0, X), ("sums", 2, X), ("sums", 1, X), ("sums", 3, X), ("sums", 1, X, Y, X),
    ("sums", 0, X, Y, X), ("sums", 0, X, B0), ("sums", 2, X, NO), ("sums", 2, X, 0), ("sums", False, X, Y),
    ("sums", 0, X, None), ("sums", 5, X, Y), ("sums", "0", X, Y), ("sums", None, X, Y), ("sums", (0,), X, Y),
    ("sums", [0], X, Y), ("sums", NOUGHT, X, Y), ("sums", X, X, Y),
    ("sums", -1, X), ("sums", -1, X, Y), ("sums", 4, X), ("sums", 4, X, Y), ("sums", True, X, Y), ("sums", False, X),
    ("sums", "0", X), ("sums", None, X), ("sums", 0, B0, X), ("sums", 1, X, B0), ("sums", 0, NO, X), ("sums", X, Y),
    ("sums", (0,), X), ("sums", [0], X), ("sums", NOUGHT, X),
    ("down",), ("down", ("equal", X), ("equal", X)), ("never",), ("never", ("equal", X), NO),
    ("climb", B, given("p", B), "x", "u", given("p", B)), ("climb", ("same", B1, B0), given("p", B), "x", "u",
                                                           given("p", B), X),
    ("climb", B, given("p", B), "x", "u", given("p", B), B0), ("climb", B, given("p", B), "X", "u", given("p", B), X),
    ("climb", B, given("p", B), "x", "", given("p", B), X), ("climb", B, given("p", B), "x", "u", given("p", B), X, X),
    ("climb", given("p", B), B, "x", "u", given("p", B), X), ("twice",), ("twice", given("u", NO), NO),
    ("Given", "u", A), ("give", "u", A), ("", "u", A), (None, "u", A), (0,), ((),), (("given",), "u", A),
    ("same", X, X), X, NO,
]


class Forms(unittest.TestCase):
    def test_malformed(self):
        for thing in MALFORMED:
            self.assertEqual(told(thing), ((), "form"), thing)

    def test_malformed_within(self):
        for thing in MALFORMED:
            self.assertEqual(told(("uses", ("equal", X), thing)), ((1,), "form"), thing)
            self.assertEqual(told(("for", "x", ("climb", B, thing, "x", "u", thing, X))), ((0, 0), "form"), thing)
            self.assertEqual(told(("cases", given("p", A), "u", given("p", A), "v", thing)), ((2,), "form"), thing)

    def test_lists(self):
        for ground, _, _ in RIGHT:
            self.assertEqual(told(list(ground)), ((), "form"))
            self.assertEqual(told(("twice", list(ground))), ((0,), "form"))
            self.assertEqual(told(("both", ("equal", X), list(ground))), ((1,), "form"))

    def test_a_part_too_few_and_too_many(self):
        for ground, _, _ in RIGHT:
            self.assertEqual(told(ground[:-1]), ((), "form"), ground)
            for more in (X, NO, "u", ("equal", X), None, 0):
                self.assertEqual(told(ground + (more,)), ((), "form"), ground)

    def test_anything(self):
        things = ODD + ["given", ("given",) * 1000000, nested("x", 299, tuple), nested("x", 299, list),
                        nested(None, 298, tuple),
                        nested((), 298, list), tower("next", X, 299), ("twice",) * 3, nested(("equal", X), 290, tuple),
                        [("equal", X)], {}.get(0), 10 ** 100, "x" * 100000]
        for thing in things:
            self.assertEqual(told(thing), ((), "form"))
            self.assertEqual(told(("twice", thing)), ((0,), "form"))
            self.assertEqual(told(("put", ("equal", X), BODY, ("both", thing, thing))), ((1, 0), "form"))

    def test_anything_as_a_part(self):
        for thing in [thing for thing in ODD if not isinstance(thing, str)] + [nested("x", 290, list),
            nested((), 290, tuple)]:
            for ground in [("given", thing, A), ("given", "u", thing) if thing != NO else ("given",), ("equal", thing),
                           ("sums", thing, X, X) if thing not in (0, 1) or thing is True or thing is False else
                           ("sums",), ("for", thing, ("equal", X)),
                           ("such", thing, X, ("equal", X)) if thing != NO else ("such",), ("at", ("equal", X), thing)]:
                self.assertEqual(told(ground), ((), "form"), ground)


class Order(unittest.TestCase):
    """What is told first, where several things aren't so."""

    SAYING = ("first", ("equal", X))
    FORM = ("given", "u", X)
    GIVEN = ("lets", "u", A, given("u", B))
    NAME = ("for", "x", given("u", A))
    NUMBER = ("reckoned", NOUGHT, ONE)
    SIZE = ("equal", bush("plus", X, 200))

    def test_each_alone(self):
        for ground, word in [(self.SAYING, "saying"), (self.FORM, "form"), (self.GIVEN, "given"), (self.NAME, "name"),
                             (self.NUMBER, "number"), (self.SIZE, "size")]:
            self.assertEqual(told(ground), ((), word))

    def test_the_grounds_from_the_left(self):
        faults = [(self.SAYING, "saying"), (self.FORM, "form"), (self.GIVEN, "given"), (self.NAME, "name"),
                  (self.NUMBER, "number"), (self.SIZE, "size")]
        fine = ("equal", X)
        for one, word in faults:
            for other, _ in faults:
                self.assertEqual(told(("both", one, other)), ((0,), word))
                self.assertEqual(told(("both", fine, one)), ((1,), word))
                self.assertEqual(told(("cases", one, "u", other, "v", other)), ((0,), word))
                self.assertEqual(told(("cases", fine, "u", one, "v", other)), ((1,), word))
                self.assertEqual(told(("cases", fine, "u", fine, "v", one)), ((2,), word))
                self.assertEqual(told(("climb", B, fine, "x", "u", one, X)), ((1,), word))

    def test_form_of_the_whole_ahead_of_its_grounds(self):
        for fault in (self.SAYING, self.FORM, self.GIVEN, self.NAME, self.NUMBER, self.SIZE):
            self.assertEqual(told(("at", fault, B0)), ((), "form"))
            self.assertEqual(told(("both", fault, fault, fault)), ((), "form"))

    def test_grounds_ahead_of_the_own_words_of_the_whole(self):
        for fault, word in [(self.SAYING, "saying"), (self.FORM, "form"), (self.GIVEN, "given"), (self.NAME, "name"),
                            (self.NUMBER, "number"), (self.SIZE, "size")]:
            self.assertEqual(told(("first", fault)), ((0,), word))
            self.assertEqual(told(("uses", ("equal", X), fault)), ((1,), word))
            self.assertEqual(told(("for", "x", ("both", given("w", A), fault))), ((0, 1), word))

    def test_deep_within(self):
        ground = self.NUMBER
        place = ()
        for _ in range(24):
            ground = ("both", ("equal", X), ("cases", ("this", ("equal", X), NO), "u", ("equal", Y), "v", ground))
            place = (1, 2) + place
        self.assertEqual(told(ground), (place, "number"))

    def test_saying_ahead_of_given_and_name(self):
        a, b = given("u", ("if", A, B)), given("u", B)
        self.assertEqual(told(("uses", a, b)), ((), "saying"))
        self.assertEqual(told(("cases", given("u", A), "v", given("u", B), "v", given("w", B))), ((), "saying"))
        # Where p's is no or, what u is closed for can't be told.
        self.assertEqual(told(("cases", given("p", A), "u", given("u", B), "v", given("u", B))), ((), "saying"))
        self.assertEqual(told(("open", given("u", A), "x", "v", given("u", B))), ((), "saying"))
        self.assertEqual(told(("open", given("p", A), "x", "u", ("both", given("u", B), given("v", A)))),
                         ((), "saying"))
        self.assertEqual(told(("climb", BODY, given("p", B), "x", "u", ("both", given("u", B), given("v", A)), X)),
                         ((), "saying"))

    def test_saying_ahead_of_size(self):
        big = bush("plus", X, 190)
        self.assertEqual(told(("put", given("u", ("same", X, big)), ("same", B0, B0), given("v", ("same", X, Y)))),
                         ((), "saying"))
        self.assertEqual(told(("put", given("u", ("same", X, big)), ("same", B0, B0), given("v", ("same", X, X)))),
                         ((), "size"))

    def test_size_ahead_of_given(self):
        big = bush("and", A, 100)
        self.assertEqual(told(("both", given("u", big), given("u", A))), ((), "size"))
        self.assertEqual(told(("lets", "u", big, given("u", A))), ((), "size"))

    def test_size_ahead_of_name_and_number(self):
        big = bush("plus", X, 199)
        self.assertEqual(told(("for", "x", given("u", ("same", ("next", X), big)))), ((), "size"))
        self.assertEqual(told(("for", "x", given("u", ("same", X, big)))), ((), "name"))
        number = bush("plus", ONE, 199)
        self.assertEqual(told(("reckoned", number, ("next", ("next", NOUGHT)))), ((), "size"))
        self.assertEqual(told(("reckoned", number, ("next", NOUGHT))), ((), "number"))

    def test_given_ahead_of_name(self):
        some = given("p", ("some", BODY))
        both = ("both", given("u", B), given("v", A))
        self.assertEqual(told(("open", some, "x", "u", both)), ((), "given"))
        self.assertEqual(told(("open", some, "x", "w", ("both", given("p", B), given("v", A)))), ((), "given"))
        turn = ("second", ("both", both, ("absurd", given("n", NO), ("same", ("next", X), Y))))
        self.assertEqual(told(("climb", BODY, given("p", ("same", NOUGHT, Y)), "x", "u", turn, X)), ((), "given"))

    def test_beside_the_oracle(self):
        others = [ground for ground, _, _ in RIGHT]
        words = {}
        for seed in range(150):
            maker = Maker(seed, plain=seed % 3 > 0)
            ground = maker.ground()
            self.compare(ground)
            for _ in range(4):
                other = maker.chance.choice(others)
                for thing in (spoiled(maker.chance, ground, others),
                              swapped(maker.chance, swapped(maker.chance, ground, other, parts_of), other, parts_of)):
                    word = self.compare(thing)
                    words[word] = words.get(word, 0) + 1
            others.append(ground)
        for word in (None, "form", "saying", "given", "number"):
            self.assertGreater(words[word], 4, words)

    def compare(self, thing):
        try:
            saying, givens = oracle.ground_told(thing)
        except oracle.Refused as refusal:
            self.assertEqual(told(thing), refusal.told, thing)
            return refusal.told[1]
        self.assertEqual(grounded(thing), (saying, tuple(sorted(givens.items()))))
        return None


class Sizes(unittest.TestCase):
    def test_within_one_another(self):
        for many, due in [(99, None), (100, None), (101, ((), "form")), (150, ((), "form")), (3000, ((), "form"))]:
            ground = ("equal", NOUGHT)
            for _ in range(many - 1):
                ground = ("put", ("equal", X), TRUE, ground)
            self.assertEqual(told(ground), due, many)

    def test_within_one_another_in_each_ground(self):
        deep = ("equal", NOUGHT)
        for _ in range(98):
            deep = ("put", ("equal", X), TRUE, deep)
        fine = ("equal", NOUGHT)
        self.assertEqual(told(deep), None)
        self.assertEqual(told(("both", deep, fine)), None)
        self.assertEqual(told(("both", fine, deep)), None)
        sides = ("this", fine, TRUE)
        self.assertEqual(told(("cases", sides, "u", fine, "v", deep)), None)
        deeper = ("put", fine, TRUE, deep)
        self.assertEqual(told(deeper), None)
        self.assertEqual(told(("both", deeper, fine)), ((), "form"))
        self.assertEqual(told(("cases", sides, "u", fine, "v", deeper)), ((), "form"))
        self.assertEqual(told(("cases", sides, "u", deeper, "v", fine)), ((), "form"))
        self.assertEqual(told(("put", deeper, ("same", B0, B0), fine)), ((), "form"))

    def test_pieces(self):
        # A row of k grounds is joined by k - 1 puts, so of 2 k - 1 pieces.
        leaf = ("equal", NOUGHT)
        row = [leaf] * 1000
        while len(row) > 1:
            row = [("put", row[k], ("same", B0, NOUGHT), row[k + 1]) if k + 1 < len(row) else row[k]
                   for k in range(0, len(row), 2)]
        ground = row[0]
        self.assertEqual(told(ground), None)
        self.assertEqual(grounded(("that", NO, ground)), (("or", NO, TRUE), ()))
        self.assertEqual(told(("that", NO, ("that", NO, ground))), ((), "form"))
        self.assertEqual(told(("both", leaf, ground)), ((), "form"))

    def test_far_more(self):
        for many in (20, 90, 200, 299):
            self.assertEqual(told(shared("both", ("equal", X), many)), ((), "form"))
            self.assertEqual(told(shared("uses", ("equal", X), many)), ((), "form"))
        self.assertEqual(told(bush("both", ("equal", X), 50000)), ((), "form"))
        self.assertEqual(told(tower("twice", ("equal", X), 299)), ((), "form"))

    def test_a_greater_one_is_refused_ahead_of_all_else(self):
        wrong = ("first", ("equal", X))
        self.assertEqual(told(bush("both", wrong, 300)), ((0,) * 9, "saying"))
        self.assertEqual(told(bush("both", wrong, 3000)), ((), "form"))
        self.assertEqual(told(tower("first", ("equal", X), 101)), ((), "form"))
        self.assertEqual(told(tower("first", ("equal", X), 100)), ((0,) * 98, "saying"))

    def test_parts_that_are_greater(self):
        big = bush("and", NO, 200)
        self.assertEqual(told(given("u", big)), None)
        self.assertEqual(told(given("u", ("all", big))), None)
        self.assertEqual(told(given("u", ("all", ("all", big)))), ((), "form"))
        self.assertEqual(told(given("u", tower("all", NO, 60))), None)
        self.assertEqual(told(given("u", tower("all", NO, 61))), ((), "form"))
        self.assertEqual(told(("twice", given("u", bush("and", NO, 201)))), ((0,), "form"))
        self.assertEqual(told(("at", given("u", C), bush("plus", X, 201))), ((), "form"))
        self.assertEqual(told(("at", given("u", C), tower("next", X, 61))), ((), "form"))
        self.assertEqual(told(("such", bush("and", NO, 201), X, given("u", A))), ((), "form"))

    def test_pieces_of_what_is_grounded(self):
        # 399 pieces, 400, 401.
        half = bush("plus", X, 100)
        self.assertEqual(told(("equal", half)), None)
        self.assertEqual(told(("equal", ("next", half))), ((), "size"))
        big = bush("and", NO, 200)
        most = ("all", big)
        for ground, due in [
            (("for", "x", given("u", big)), None), (("for", "x", given("u", most)), "size"),
            (("such", big, X, given("u", big)), None), (("such", most, X, given("u", most)), "size"),
            (("absurd", given("u", NO), most), None), (("lets", "u", NO, given("v", big)), "size"),
            (("lets", "u", big, given("v", NO)), "size"), (("lets", "u", NO, given("v", big[1])), None),
            (("both", given("u", big[1]), given("v", big[2])), None), (("both", given("u", most), given("v", NO)),
                "size"),
            (("this", given("v", NO), big), "size"), (("that", big, given("v", NO)), "size"),
            (("this", given("v", NO), big[1]), None), (("that", big[1], given("v", NO)), None),
            (("at", given("u", ("all", ("same", B0, B0))), half), None),
            (("at", given("u", ("all", ("same", B0, ("next", B0)))), half), None),
            (("at", given("u", ("all", ("same", ("next", B0), ("next", B0)))), half), "size"),
            (("at", given("u", ("all", ("same", ("plus", B0, B0), B0))), half), "size"),
            (("reckoned", bush("plus", NOUGHT, 100), bush("times", NOUGHT, 100)), None),
            (("reckoned", bush("plus", NOUGHT, 101), bush("times", NOUGHT, 100)), "size"),
            (("sums", 0, bush("plus", X, 99), X), None), (("sums", 0, ("next", bush("plus", X, 99)), half), None),
            (("sums", 0, half, X), "size"), (("sums", 0, X, bush("plus", X, 200)), None),
            (("sums", 1, half, X), "size"), (("sums", 2, ("next", bush("plus", X, 198)), X), None),
            (("sums", 2, bush("plus", X, 199), X), "size"), (("sums", 3, X, half), "size"),
            (("climb", ("same", ("times", B0, B0), ("times", B0, B0)),
              ("absurd", given("n", NO), ("same", ("times", NOUGHT, NOUGHT), ("times", NOUGHT, NOUGHT))),
              "x", "u", ("absurd", given("n", NO), ("same", ("times", ("next", X), ("next", X)),
                                                    ("times", ("next", X), ("next", X)))),
              half), "size"),
        ]:
            if due is None:
                self.assertTrue(is_saying(grounded(ground)[0]))
            else:
                self.assertEqual(told(ground), ((), due), ground)

    def test_within_one_another_of_what_is_grounded(self):
        for most, due in [(tower("all", NO, 59), None), (tower("some", NO, 60), ((), "size"))]:
            for ground in [("for", "x", given("u", most)), ("such", most, X, given("u", most)),
                           ("lets", "u", most, given("v", A)),
                           ("lets", "u", A, given("v", most)), ("both", given("u", A), given("v", most)),
                           ("this", given("u", most), NO), ("this", given("u", NO), most),
                           ("that", most, given("u", NO)),
                           ("that", NO, given("u", most))]:
                self.assertEqual(told(ground), due, ground)
        self.assertEqual(told(("equal", tower("next", X, 59))), None)
        self.assertEqual(told(("equal", tower("next", X, 60))), ((), "size"))
        self.assertEqual(told(("reckoned", tower("next", NOUGHT, 60), ("num", 59))), ((), "size"))
        self.assertEqual(told(("sums", 0, tower("next", X, 58), X)), None)
        self.assertEqual(told(("sums", 0, tower("next", X, 59), X)), ((), "size"))
        some = given("u", ("all", ("same", X, tower("next", B0, 30))))
        self.assertEqual(told(("at", some, tower("next", X, 30))), None)
        self.assertEqual(told(("at", some, tower("next", X, 31))), ((), "size"))

    def test_size_at_its_place(self):
        big = bush("and", NO, 200)
        self.assertEqual(told(("first", ("both", given("u", big), given("v", big)))), ((0,), "size"))
        self.assertEqual(told(("uses", ("lets", "u", A, given("u", A)),
                               ("first", ("both", given("v", A), ("equal", bush("plus", X, 200)))))),
                         ((1, 0, 1), "size"))


class HandedIn(unittest.TestCase):
    def test_things_are_as_they_were(self):
        inner = ["given", "u", ["no"]]
        for thing in [inner, ("twice", inner), ("given", "u", ["no"]), ("given", ["u"], NO),
                      ("both", ("equal", X), [inner])]:
            before = repr(thing)
            self.assertIsNotNone(told(thing))
            self.assertEqual(repr(thing), before)

    def test_refusals_are_ground_errors(self):
        with self.assertRaises(GroundError):
            grounded(None)
        self.assertIsInstance(told(("twice", None))[0], tuple)


if __name__ == "__main__":
    unittest.main()
