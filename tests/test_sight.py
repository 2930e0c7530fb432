import unittest

from prooffruit.errors import GroundError, TooMany
from prooffruit.kinds import kind_of
from prooffruit.runs import is_worth
from prooffruit.sayings import is_saying
from prooffruit.sight import bears, is_flat, is_seen, is_true
from tests.samples import B0, B1, GREAT, NO, NOUGHT, ODD, ONE, TRUE, X, Y, bush, nested, shared, slope, tower

FALSE = ("same", NOUGHT, ONE)
GREATEST = ("num", GREAT - 1)
MANY = ("same", ("next", GREATEST), NOUGHT)
TWO = ("num", 2)
SOME = ("some", ("same", B0, TWO))
OR = ("or", TRUE, FALSE)

FLAT = [TRUE, FALSE, NO, MANY, ("same", X, Y), ("and", TRUE, NO), ("if", NO, ("and", FALSE, TRUE)),
        ("if", ("if", NO, NO), ("same", X, ONE)), ("and", ("and", NO, NO), ("if", NO, TRUE))]
SEEN = [OR, SOME, ("and", OR, TRUE), ("and", TRUE, SOME), ("or", SOME, OR), ("some", SOME),
        ("some", ("or", ("same", B0, X), ("some", ("same", B1, B0)))), ("if", TRUE, OR),
        ("if", ("and", NO, ("if", NO, NO)), ("if", FALSE, SOME)), ("or", ("if", NO, NO),
            ("and", SOME, ("if", TRUE, OR)))]
NEITHER = [("all", NO), ("all", ("same", B0, B0)), ("and", TRUE, ("all", NO)), ("and", ("all", NO), TRUE),
           ("or", ("all", NO), TRUE), ("or", TRUE, ("all", NO)), ("if", TRUE, ("all", NO)),
           ("if", ("all", NO), TRUE), ("some", ("all", NO)), ("all", OR), ("if", OR, TRUE), ("if", SOME, TRUE),
           ("if", ("or", NO, NO), NO), ("if", OR, SOME), ("if", ("if", SOME, NO), NO),
           ("and", TRUE, ("if", SOME, NO)), ("some", ("if", ("or", NO, NO), NO)), ("or", NO, ("and", NO, ("all", NO))),
           ("if", ("and", TRUE, OR), NO), ("if", NO, ("if", OR, NO))]


def outcome(told, *things):
    try:
        return told(*things)
    except TooMany:
        return "many"


class Sorts(unittest.TestCase):
    def test_flat(self):
        for saying in FLAT:
            self.assertIs(is_flat(saying), True, saying)
            self.assertIs(is_seen(saying), True, saying)

    def test_seen(self):
        for saying in SEEN:
            self.assertIs(is_flat(saying), False, saying)
            self.assertIs(is_seen(saying), True, saying)

    def test_neither(self):
        for saying in NEITHER:
            self.assertIs(is_flat(saying), False, saying)
            self.assertIs(is_seen(saying), False, saying)

    def test_of_parts(self):
        for rows, flat, seen in [(FLAT, True, True), (SEEN, False, True), (NEITHER, False, False)]:
            for saying in rows:
                for whole in [("and", saying, NO), ("and", NO, saying), ("if", NO, saying)]:
                    self.assertEqual((is_flat(whole), is_seen(whole)), (flat, seen), whole)
                for whole in [("or", saying, NO), ("or", NO, saying), ("some", saying)]:
                    self.assertEqual((is_flat(whole), is_seen(whole)), (False, seen), whole)
                self.assertEqual((is_flat(("if", saying, NO)), is_seen(("if", saying, NO))), (flat, flat), saying)
                self.assertEqual((is_flat(("all", saying)), is_seen(("all", saying))), (False, False))

    def test_great_ones(self):
        self.assertEqual((is_flat(bush("and", NO, 200)), is_seen(bush("or", NO, 200))), (True, True))
        self.assertEqual((is_flat(tower("some", NO, 60)), is_seen(tower("some", NO, 60))), (False, True))
        self.assertEqual(is_seen(slope("if", NO, 60)), True)

    def test_by_name(self):
        self.assertEqual((is_flat(saying=NO), is_seen(saying=SOME)), (True, True))


class IsTrue(unittest.TestCase):
    def test_every_word(self):
        for saying, due in [
            (TRUE, True), (FALSE, False), (NO, False), (("same", ("plus", ONE, ONE), TWO), True),
            (("same", ("times", TWO, TWO), ("next", ("num", 3))), True),
            (("same", GREATEST, GREATEST), True), (("same", GREATEST, NOUGHT), False),
            (("and", TRUE, TRUE), True), (("and", TRUE, FALSE), False), (("and", FALSE, TRUE), False),
            (("and", FALSE, FALSE), False),
            (("if", TRUE, TRUE), True), (("if", TRUE, FALSE), False), (("if", FALSE, TRUE), True),
            (("if", FALSE, FALSE), True),
            (("if", NO, NO), True), (("if", TRUE, NO), False),
            (("and", ("if", FALSE, NO), ("if", ("if", TRUE, NO), FALSE)), True),
            (("if", ("and", TRUE, FALSE), ("and", NO, NO)), True), (("if", ("if", FALSE, NO), ("and", TRUE, FALSE)),
                False),
        ]:
            self.assertIs(is_true(saying), due, saying)

    def test_all_equations_are_reckoned(self):
        for saying in [MANY, ("same", NOUGHT, ("next", GREATEST)), ("same",
            ("times", ("num", 10 ** 30), ("num", 10 ** 30)), ("num", 3)), ("and", FALSE, MANY), ("and", MANY, FALSE),
                       ("and", NO, MANY), ("if", FALSE, MANY), ("if", MANY, TRUE), ("if", TRUE, MANY),
                       ("if", NO, ("and", NO, MANY)), ("if", MANY, MANY),
                       ("same", ("times", NOUGHT, ("next", GREATEST)), NOUGHT),
                       ("and", ("if", NO, ("if", NO, MANY)), TRUE)]:
            with self.assertRaises(TooMany):
                is_true(saying)

    def test_great_ones(self):
        self.assertIs(is_true(bush("and", TRUE, 100)), True)
        self.assertIs(is_true(("and", bush("and", TRUE, 99), FALSE)), False)
        self.assertIs(is_true(slope("if", TRUE, 58)), True)

    def test_by_name(self):
        self.assertIs(is_true(saying=TRUE), True)


class Bears(unittest.TestCase):
    """Each time: worths that bear a saying, and things that don't."""

    def check(self, saying, bearing, others):
        self.assertTrue(is_saying(saying) and is_seen(saying), saying)
        for thing in bearing:
            self.assertIs(bears(saying, thing), True, (saying, thing))
        for thing in others:
            self.assertIs(bears(saying, thing), False, (saying, thing))

    def test_flat(self):
        self.check(TRUE, [None], [0, False, (), "", ("this", None)])
        self.check(FALSE, [], [None, 0, True])
        self.check(("and", TRUE, TRUE), [None], [(None, None), 0])
        self.check(("if", FALSE, NO), [None], [0])
        self.check(NO, [], [None])

    def test_or(self):
        self.check(OR, [("this", None)], [("that", None), None, 0, ("this", 0), ("this",), ["this", None]])
        self.check(("or", FALSE, TRUE), [("that", None)], [("this", None), ("that", 0)])
        self.check(("or", SOME, SOME), [("this", 2), ("that", 2)], [("this", 1), ("that", 3), ("this", True), 2,
            ("that", None)])
        self.check(("or", SOME, FALSE), [("this", 2)], [("that", None), ("that", 2), ("this", None)])

    def test_some(self):
        self.check(SOME, [2], [0, 1, 3, GREAT, GREAT + 2, None, True, (2,), (2, None), "2", -1])
        self.check(("some", TRUE), [0, 1, GREAT - 1], [True, GREAT, None])
        self.check(("some", ("some", ("same", B1, ("next", B0)))), [(1, 0), (5, 4)],
                   [(0, 1), (1, 1), 1, (1,), (1, 0, 0), [1, 0], (1, False)])
        self.check(("some", ("or", ("same", B0, ONE), ("same", B0, TWO))), [(1, ("this", None)), (2, ("that", None))],
                   [(1, ("that", None)), (2, ("this", None)), 1])
        self.check(("some", ("and", ("same", B0, ONE), SOME)), [(1, 2)], [(2, 2), (1, 1), (2, 1)])

    def test_and(self):
        self.check(("and", SOME, TRUE), [2], [1, (2, None), None])
        self.check(("and", TRUE, SOME), [2], [1, (None, 2), None])
        self.check(("and", SOME, FALSE), [], [2, 1])
        self.check(("and", FALSE, SOME), [], [2, 1])
        other = ("some", ("same", B0, ONE))
        self.check(("and", SOME, other), [(2, 1)], [(1, 2), (2, 2), (1, 1), 2, (2,), (2, 1, 1), [2, 1]])
        self.check(("and", ("and", SOME, other), TRUE), [(2, 1)], [(1, 2)])
        self.check(("and", SOME, ("and", TRUE, other)), [(2, 1)], [(1, 2)])

    def test_if(self):
        self.check(("if", TRUE, SOME), [2], [0, 1, None])
        self.check(("if", FALSE, SOME), [0, 1, 2, GREAT - 1], [None, GREAT, True, -1, "0"])
        self.check(("if", NO, ("or", FALSE, SOME)), [("this", None), ("that", 0), ("that", 7)],
                   [("this", 0), ("that", None), 0])
        self.check(("if", ("and", TRUE, ("if", FALSE, NO)), OR), [("this", None)], [("that", None)])
        self.check(("if", FALSE, ("and", SOME, SOME)), [(0, 0), (4, 5)], [0, (0,), (0, None)])
        self.check(("if", FALSE, ("if", TRUE, SOME)), [0, 2], [None])
        self.check(("if", TRUE, ("if", FALSE, SOME)), [0, 2], [None])

    def test_anything(self):
        things = [thing for thing in ODD if thing is not None and thing not in (0, 1)] + [nested(0, 299, tuple),
            nested(2, 299, list), shared(0, 2, 250), (0,) * 100000, True, False]
        for saying in [TRUE, SOME, OR, ("if", FALSE, SOME), ("and", SOME, OR), ("some", SOME), ("and", SOME, SOME)]:
            for thing in things:
                if not is_worth(kind_of(saying), thing):
                    self.assertIs(bears(saying, thing), False, saying)

    def test_what_is_no_worth_is_refused_ahead_of_all_equations(self):
        for saying, thing in [(MANY, 0), (("and", MANY, SOME), None), (("and", MANY, SOME), True),
                              (("or", MANY, MANY), ("this", 0)), (("some", MANY), None), (("if", MANY, SOME), None),
                              (("if", MANY, TRUE), 0)]:
            self.assertIs(bears(saying, thing), False)

    def test_too_many(self):
        for saying, thing in [(MANY, None), (("and", MANY, SOME), 2), (("and", SOME, MANY), 2),
                              (("and", SOME, MANY), 1), (("and", FALSE, ("and", SOME, MANY)), 1),
                              (("or", MANY, TRUE), ("this", None)),
                              (("or", TRUE, MANY), ("that", None)), (("some", MANY), 0),
                              (("some", ("same", ("next", B0), NOUGHT)), GREAT - 1), (("if", MANY, SOME), 2),
                              (("if", TRUE, ("and", MANY, SOME)), 0),
                              (("and", ("and", SOME, FALSE), ("and", SOME, MANY)), (1, 1)),
                              (("if", ("and", FALSE, MANY), SOME), 2), (("if", FALSE, MANY), None)]:
            self.assertEqual(outcome(bears, saying, thing), "many", (saying, thing))

    def test_what_is_not_gone_through(self):
        for saying, thing, due in [(("or", TRUE, MANY), ("this", None), True),
                                   (("or", FALSE, MANY), ("this", None), False),
                                   (("or", MANY, TRUE), ("that", None), True),
                                   (("or", MANY, FALSE), ("that", None), False),
                                   (("if", FALSE, ("and", MANY, SOME)), 1, True),
                                   (("if", FALSE, ("some", MANY)), 0, True),
                                   (("some", ("same", ("next", B0), NOUGHT)), GREAT - 2, False),
                                   (("and", FALSE, ("or", SOME, MANY)), ("this", 2), False),
                                   (("and", TRUE, ("if", NO, ("or", MANY, MANY))), ("that", None), True)]:
            self.assertIs(bears(saying, thing), due, (saying, thing))

    def test_great_ones(self):
        self.check(tower("some", TRUE, 58), [nested_pairs(58 - 1)], [nested_pairs(58)])
        self.check(bush("and", SOME, 60), [], [2, None])

    def test_things_are_as_they_were(self):
        thing = [[2], ["this", [None]]]
        self.assertIs(bears(("and", SOME, OR), thing), False)
        self.assertIs(bears(("and", SOME, OR), (thing, thing)), False)
        self.assertEqual(thing, [[2], ["this", [None]]])

    def test_by_name(self):
        self.assertIs(bears(thing=2, saying=SOME), True)

    def test_refusals_are_ground_errors(self):
        with self.assertRaises(GroundError):
            bears(MANY, None)


def nested_pairs(many):
    thing = 0
    for _ in range(many - 1):
        thing = (0, thing)
    return thing


if __name__ == "__main__":
    unittest.main()
