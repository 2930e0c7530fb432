import random
import unittest

from prooffruit.errors import GroundError, NoWorth, TooMany
from prooffruit.grounds import is_plain
from prooffruit.judge import grounded
from prooffruit.kinds import kind_of
from prooffruit.pieces import pieces_of
from prooffruit.putting import open_names
from prooffruit.runs import run
from prooffruit.settled import settled, shown_by, sought
from prooffruit.sight import bears, is_flat, is_seen, is_true
from prooffruit.yields import yielded
from tests.samples import B0, B1, B2, GREAT, NO, NOUGHT, ODD, ONE, TRUE, bush, nested, slope, tower

FALSE = ("same", NOUGHT, ONE)
GREATEST = ("num", GREAT - 1)
MANY = ("same", ("next", GREATEST), NOUGHT)
TWO = ("num", 2)
SOME = ("some", ("same", B0, TWO))
OR = ("or", TRUE, FALSE)

TRUE_ONES = [
    TRUE, ("same", ("plus", ONE, ONE), TWO), ("same", ("times", TWO, ("num", 3)), ("next", ("num", 5))),
    ("same", GREATEST, ("plus", GREATEST, NOUGHT)),
    ("and", TRUE, TRUE), ("if", TRUE, TRUE), ("if", FALSE, FALSE), ("if", FALSE, TRUE), ("if", NO, NO),
    ("if", NO, TRUE), ("and", ("if", NO, FALSE), TRUE),
    ("if", ("and", TRUE, FALSE), NO), ("if", ("and", FALSE, TRUE), NO), ("if", ("if", TRUE, FALSE), FALSE),
    ("if", ("if", TRUE, NO), ("and", NO, NO)), ("if", ("if", ("if", FALSE, NO), NO), NO),
]
FALSE_ONES = [
    FALSE, ("same", ONE, NOUGHT), ("same", ("num", 5), ("num", 3)), ("same", ("num", 3), ("num", 5)),
    ("same", GREATEST, NOUGHT), ("same", NOUGHT, GREATEST), ("same", GREATEST, ("num", GREAT - 2)),
    ("same", ("plus", ONE, ("num", 10 ** 50)), ("times", TWO, ("num", 10 ** 49))),
    ("same", ("next", ("next", NOUGHT)), ONE), NO, ("and", TRUE, FALSE), ("and", FALSE, TRUE), ("and", FALSE, FALSE),
    ("and", NO, TRUE), ("and", TRUE, NO),
    ("if", TRUE, FALSE), ("if", TRUE, NO), ("if", ("if", FALSE, NO), NO), ("and", ("if", NO, NO), ("if", TRUE, FALSE)),
    ("if", ("and", TRUE, TRUE), ("and", TRUE, FALSE)),
]


class Grounds(unittest.TestCase):
    def check(self, ground, saying):
        """A right plain ground, without givens and names, of a saying; let by as one that is handed in."""
        self.assertEqual(grounded(ground), (saying, ()))
        self.assertIs(is_plain(ground), True)
        self.assertEqual(open_names(ground), [])


class Settled(Grounds):
    def check_settled(self, saying):
        word, ground = told = settled(saying)
        self.assertIsInstance(told, tuple)
        self.assertEqual(word, "yes" if is_true(saying) else "no")
        self.check(ground, saying if word == "yes" else ("if", saying, NO))
        return word

    def test_true_ones(self):
        for saying in TRUE_ONES:
            self.assertEqual(self.check_settled(saying), "yes", saying)

    def test_false_ones(self):
        for saying in FALSE_ONES:
            self.assertEqual(self.check_settled(saying), "no", saying)

    def test_of_each_two(self):
        for left in (TRUE, FALSE, NO, ("if", NO, NO), ("and", TRUE, NO)):
            for right in (TRUE, FALSE, NO, ("if", FALSE, TRUE), ("and", TRUE, TRUE)):
                for word in ("and", "if"):
                    self.check_settled((word, left, right))
                    self.check_settled(("if", (word, left, right), NO))
                    self.check_settled(("and", (word, left, right), (word, right, left)))

    def test_equations_of_small_numbers(self):
        for n in range(5):
            for m in range(5):
                self.check_settled(("same", ("num", n), ("num", m)))
                self.check_settled(("same", ("plus", ("num", n), ("num", m)),
                                    ("times", ("num", m), ("next", ("num", n)))))

    def test_too_many(self):
        for saying in [MANY, ("same", NOUGHT, ("next", GREATEST)), ("and", NO, MANY), ("and", FALSE, MANY),
                       ("if", NO, MANY), ("if", MANY, TRUE), ("if", TRUE, ("and", NO, MANY)),
                       ("same", ("times", NOUGHT, ("next", GREATEST)), NOUGHT)]:
            with self.assertRaises(TooMany):
                settled(saying)

    def test_of_forty_pieces(self):
        # As far within one another as may be, and with as many equations as may be.
        for leaf in (NO, FALSE, TRUE):
            for word in ("and", "if"):
                many = (40 - len(pieces_of(leaf))) // 2
                for left in (False, True):
                    saying = leaf
                    for _ in range(many):
                        saying = (word, saying, NO) if left else (word, NO, saying)
                    self.assertLessEqual(len(pieces_of(saying)), 40)
                    self.check_settled(saying)
                self.check_settled(bush(word, leaf, 20 if leaf == NO else 10))
        self.check_settled(("same", tower("next", NOUGHT, 37), ("num", 36)))
        self.check_settled(("same", tower("next", NOUGHT, 37), ("num", 37)))
        self.check_settled(("same", ("num", 35), tower("next", NOUGHT, 37)))

    def test_of_flat_sayings_by_chance(self):
        chance = random.Random(7)
        told = [self.check_settled(flat(chance, chance.choice([7, 15, 25, 40, 40]))) for _ in range(250)]
        self.assertGreater(told.count("yes"), 50)
        self.assertGreater(told.count("no"), 50)

    def test_greater_ones(self):
        # What is told may be greater: but each equation is settled by what isn't.
        for saying in [("same", bush("plus", ONE, 199), ("num", 3)), ("same", ("num", 3), bush("plus", ONE, 199)),
                       ("same", bush("plus", ONE, 100), ("next", bush("plus", TWO, 99)))]:
            word, ground = settled(saying)
            self.assertEqual((word, ground[:3]), ("no", ("lets", "u", saying)))
        self.assertEqual(settled(bush("and", TRUE, 100))[0], "yes")
        self.assertEqual(settled(slope("if", FALSE, 58))[0], "yes")
        self.assertEqual(settled(bush("and", FALSE, 100))[0], "no")

    def test_by_name(self):
        self.check(settled(saying=TRUE)[1], TRUE)


class ShownBy(Grounds):
    def check_shown(self, saying, worth):
        ground = shown_by(saying, worth)
        self.check(ground, saying)
        self.assertEqual(run(yielded(ground), {}), worth, (saying, worth))

    def test_every_word(self):
        for saying, worth in [
            (TRUE, None), (("and", TRUE, ("if", FALSE, NO)), None), (OR, ("this", None)),
            (("or", FALSE, TRUE), ("that", None)), (("or", SOME, NO), ("this", 2)),
            (("or", OR, SOME), ("this", ("this", None))), (("or", OR, SOME), ("that", 2)),
            (SOME, 2), (("some", TRUE), 7), (("some", ("some", ("same", B1, ("next", B0)))), (5, 4)),
            (("some", ("or", ("same", B0, ONE), ("same", B0, TWO))), (2, ("that", None))),
            (("and", SOME, TRUE), 2), (("and", TRUE, SOME), 2), (("and", SOME, OR), (2, ("this", None))),
            (("and", ("and", SOME, TRUE), ("and", SOME, SOME)), (2, (2, 2))),
            (("if", TRUE, SOME), 2), (("if", ("and", TRUE, TRUE), ("and", SOME, OR)), (2, ("this", None))),
            (("some", ("if", ("same", B0, ONE), ("some", ("same", B0, B1)))), (1, 1)),
            (("some", ("if", ("same", B0, ONE), ("some", ("same", B0, B1)))), (0, 9)),
        ]:
            self.check_shown(saying, worth)

    def test_an_if_whose_first_is_not_true(self):
        # Any worth of the kind bears it, also one that no reckoning would tell.
        for first in (FALSE, NO, ("and", TRUE, FALSE), ("same", GREATEST, NOUGHT)):
            for second, worths in [
                (SOME, [0, 1, 2, 17, GREAT - 1]), (OR, [("this", None), ("that", None)]),
                (("or", SOME, FALSE), [("this", 0), ("this", GREAT - 1), ("that", None)]),
                (("and", SOME, SOME), [(0, 0), (3, 4), (GREAT - 1, 2)]),
                (("some", ("or", ("same", B0, ONE), ("some", ("same", B0, B1)))),
                 [(0, ("this", None)), (4, ("that", 9))]),
                (("and", TRUE, SOME), [5]), (("and", FALSE, SOME), [5]), (("and", SOME, NO), [5]),
                (("if", TRUE, SOME), [3]), (("if", FALSE, SOME), [3]),
                (("some", ("if", ("same", B0, ONE), SOME)), [(1, 5), (0, 6)]),
                (("some", MANY), [0, 3]), (("or", MANY, ("and", MANY, SOME)), [("this", None), ("that", 8)]),
            ]:
                for worth in worths:
                    self.check_shown(("if", first, second), worth)
        self.check_shown(("if", FALSE, NO), None)
        self.check_shown(("and", SOME, ("if", FALSE, SOME)), (2, 7))
        self.check_shown(("or", ("if", FALSE, ("if", NO, SOME)), NO), ("this", 7))
        self.check_shown(("if", TRUE, ("if", FALSE, SOME)), 7)
        # What stands behind isn't reckoned: not even the first of another if.
        self.check_shown(("if", FALSE, ("if", MANY, SOME)), 7)
        self.check_shown(("if", NO, ("some", ("if", ("same", ("times", B0, GREATEST), NOUGHT), ("or", NO, SOME)))),
                         (3, ("that", 9)))

    def test_great_numbers(self):
        for number in (GREAT - 1, GREAT - 2, 10 ** 59, 12345678901234567890):
            self.check_shown(("some", ("same", B0, ("num", number))), number)
            self.check_shown(("some", ("if", ("same", B0, NOUGHT), NO)), number)
            self.check_shown(("some", ("some", ("if", ("same", B0, B1), NO))), (number, 3))

    def test_too_many(self):
        for saying, worth in [(MANY, None), (("and", SOME, MANY), 2), (("and", SOME, MANY), 1),
                              (("and", FALSE, ("and", SOME, MANY)), 1), (("or", MANY, TRUE), ("this", None)),
                              (("some", ("same", ("next", B0), NOUGHT)), GREAT - 1), (("if", MANY, SOME), 2)]:
            with self.assertRaises(TooMany):
                shown_by(saying, worth)

    def test_where_equations_that_are_not_gone_through_are_too_great(self):
        self.check_shown(("or", TRUE, MANY), ("this", None))
        self.check_shown(("or", MANY, TRUE), ("that", None))

    def no_worth(self, saying, thing):
        with self.assertRaises(NoWorth) as held:
            shown_by(saying, thing)
        self.assertIs(held.exception.thing, thing)

    def test_no_worth(self):
        for saying, things in [(FALSE, [None, 0]), (TRUE, [0, True, ()]),
                               (SOME, [0, 3, None, True, GREAT, "2", [2], (2,)]),
                               (OR, [("that", None), ("this", 0), None, ["this", None]]),
                               (("and", SOME, TRUE), [1, (2, None)]),
                               (("and", SOME, FALSE), [2]), (("if", TRUE, SOME), [1]),
                               (("if", FALSE, SOME), [None, GREAT, -1]),
                               (("or", TRUE, MANY), [("this", 3), ("these", None)]), (MANY, [0]),
                               (("some", MANY), [True, (0, None)])]:
            for thing in things:
                self.no_worth(saying, thing)

    def test_no_worth_of_anything(self):
        for saying in (TRUE, SOME, OR, ("and", SOME, SOME)):
            for thing in [thing for thing in ODD if thing is not None] + [nested(2, 299, tuple),
                nested(None, 299, list), [[2]]]:
                self.no_worth(saying, thing)

    def test_of_seen_sayings_by_chance(self):
        chance = random.Random(8)
        shown = 0
        for _ in range(300):
            saying = seen(chance, chance.choice([6, 10, 16, 25, 40]), 3)
            worth = guessed(chance, kind_of(saying))
            if bears(saying, worth):
                self.check_shown(saying, worth)
                shown += 1
            else:
                self.no_worth(saying, worth)
        self.assertGreater(shown, 60)

    def test_of_forty_pieces(self):
        self.check_shown(slope("and", TRUE, 10), None)
        for leaf in (SOME, TRUE, FALSE):
            for word in ("or", "and"):
                saying = leaf
                while len(pieces_of(saying)) <= 36:
                    saying = (word, saying, TRUE)
                worth = None if leaf != SOME else 2
                for _ in range((len(pieces_of(saying)) - len(pieces_of(leaf))) // 4):
                    worth = ("this", worth) if word == "or" else worth
                if leaf != FALSE:
                    self.check_shown(saying, worth)
                self.check_shown(("if", NO, saying), worth)
        saying, worth = ("some", TRUE), 1
        for n in range(35):
            saying, worth = ("some", saying), (n, worth)
        self.check_shown(saying, worth)
        self.check_shown(("if", FALSE, ("some", tower("some", TRUE, 32))), nines(32))

    def test_by_name(self):
        self.check(shown_by(worth=2, saying=SOME), SOME)

    def test_refusals_are_ground_errors(self):
        with self.assertRaises(GroundError):
            shown_by(SOME, 3)


def nines(many):
    return 9 if many == 1 else (9, nines(many - 1))


class Sought(Grounds):
    def check_sought(self, saying, most):
        ground = sought(saying, most=most)
        if ground is None:
            return None
        self.check(ground, saying)
        worth = run(yielded(ground), {})
        self.assertIs(bears(saying, worth), True)
        self.assertLessEqual(greatest(worth), most)
        return worth

    def test_without_some(self):
        for most in (0, 1, 20):
            self.assertIsNone(self.check_sought(TRUE, most))
            self.check(sought(TRUE, most=most), TRUE)
            for saying in (FALSE, NO, ("or", FALSE, NO), ("and", OR, FALSE), ("and", FALSE, OR), ("if", TRUE, FALSE)):
                self.assertIsNone(sought(saying, most=most))
            self.assertEqual(self.check_sought(OR, most), ("this", None))
            self.assertEqual(self.check_sought(("or", FALSE, OR), most), ("that", ("this", None)))
            self.assertIn(self.check_sought(("or", TRUE, TRUE), most), [("this", None), ("that", None)])

    def test_with_one(self):
        for n in range(22):
            saying = ("some", ("same", B0, ("num", n)))
            for most in (0, 1, 2, 10, 19, 20):
                self.assertEqual(self.check_sought(saying, most), n if n <= most else None)
                self.assertEqual(self.check_sought(("or", NO, saying), most), ("that", n) if n <= most else None)
                self.assertEqual(self.check_sought(("and", saying, TRUE), most), n if n <= most else None)
                self.assertEqual(self.check_sought(("if", TRUE, saying), most), n if n <= most else None)
                self.assertIsNone(self.check_sought(("and", saying, FALSE), most))

    def test_the_most_if_nothing_is_said(self):
        self.assertIsNotNone(sought(("some", ("same", B0, ("num", 10)))))
        self.assertIsNone(sought(("some", ("same", B0, ("num", 11)))))

    def test_with_several(self):
        saying = ("some", ("some", ("same", ("plus", B0, ("times", TWO, B1)), ("num", 59))))
        self.assertIn(self.check_sought(saying, 20), [(20, 19)])
        self.assertIsNone(self.check_sought(saying, 19))
        saying = ("some", ("some", ("same", ("times", B0, B1), ("num", 35))))
        self.assertIn(self.check_sought(saying, 10), [(5, 7), (7, 5)])
        self.assertIsNone(self.check_sought(saying, 6))
        beside = ("and", ("some", ("same", B0, ONE)), ("some", ("same", B0, TWO)))
        self.assertEqual(self.check_sought(beside, 2), (1, 2))
        self.assertIsNone(self.check_sought(beside, 1))
        self.assertEqual(self.check_sought(("or", beside, ("some", ("same", B0, ONE))), 1), ("that", 1))

    def test_with_three_within_one_another(self):
        total = ("plus", B0, ("plus", B1, B2))
        for most, number, due in [(0, 0, (0, (0, 0))), (0, 1, None), (1, 3, (1, (1, 1))), (1, 4, None),
                                  (20, 60, (20, (20, 20))), (20, 61, None)]:
            saying = tower("some", ("same", total, ("num", number)), 4)
            self.assertEqual(self.check_sought(saying, most), due)
        # Each bound stands for its own: 2, 3, 5 from without.
        body = ("and", ("same", B2, TWO), ("and", ("same", B1, ("num", 3)), ("same", B0, ("num", 5))))
        self.assertEqual(self.check_sought(tower("some", body, 4), 5), (2, (3, 5)))
        self.assertIsNone(self.check_sought(tower("some", body, 4), 4))
        inner = ("some", ("some", ("and", ("same", B0, ("next", B1)), ("same", B1, B2))))
        self.assertEqual(self.check_sought(("some", ("and", ("same", B0, ONE), inner)), 2), (1, (1, 2)))

    def test_an_if_whose_first_is_not_true(self):
        for most in (0, 1, 20):
            for second in (SOME, ("or", NO, SOME), ("and", SOME, OR), ("or", SOME, NO), ("some", ("or", NO, SOME)),
                           ("if", TRUE, SOME)):
                self.assertIsNotNone(self.check_sought(("if", FALSE, second), most))
        saying = ("some", ("if", ("same", B0, NOUGHT), ("and", NO, SOME)))
        self.assertIsNone(sought(saying, most=0))
        self.assertIsNotNone(self.check_sought(saying, 1))

    def test_just_where_some_worth_bears_it(self):
        chance = random.Random(9)
        told = []
        for _ in range(200):
            saying = seen(chance, chance.choice([6, 10, 14, 20]), 3)
            most = chance.choice([0, 1, 2])
            worths = all_worths(kind_of(saying), most)
            if len(worths) > 2000:
                continue
            due = any(bears(saying, worth) for worth in worths)
            ground = sought(saying, most=most)
            self.assertEqual(ground is not None, due, (saying, most))
            if due:
                self.check(ground, saying)
                self.assertLessEqual(greatest(run(yielded(ground), {})), most)
            told.append(due)
        self.assertGreater(told.count(True), 40)
        self.assertGreater(told.count(False), 40)

    def test_by_name(self):
        self.check(sought(most=3, saying=SOME), SOME)
        with self.assertRaises(TypeError):
            sought(SOME, 3)


def greatest(worth):
    if isinstance(worth, int):
        return worth
    return max([greatest(part) for part in worth if not isinstance(part, str)], default=0) if worth else 0


def term(chance, pieces, around):
    if pieces <= 1:
        return ("bound", chance.randrange(around)) if around and chance.random() < 0.5 else ("num", chance.randrange(3))
    if pieces == 2 or chance.random() < 0.2:
        return ("next", term(chance, pieces - 1, around))
    left = chance.randrange(1, pieces - 1)
    return (chance.choice(["plus", "times"]), term(chance, left, around), term(chance, pieces - 1 - left, around))


def flat(chance, pieces, around=0):
    """A flat body of so many pieces, or fewer, beneath so many some."""
    if pieces < 3 or chance.random() < 0.05:
        return NO
    left = chance.randrange(1, pieces - 1)
    if pieces < 4 or (pieces <= 6 and chance.random() < 0.7):
        return ("same", term(chance, left, around), term(chance, pieces - 1 - left, around))
    return (chance.choice(["and", "if"]), flat(chance, left, around), flat(chance, pieces - 1 - left, around))


def seen(chance, pieces, somes, around=0):
    """A body that can be seen, with at most so many some within one another."""
    if pieces < 4 or chance.random() < 0.15:
        return flat(chance, pieces, around)
    pick = chance.randrange(5)
    if pick <= 1 and somes:
        return ("some", seen(chance, pieces - 1, somes - 1, around + 1))
    left = chance.randrange(1, pieces - 1)
    if pick == 2:
        return ("if", flat(chance, left, around), seen(chance, pieces - 1 - left, somes, around))
    word = "or" if pick == 3 else "and"
    return (word, seen(chance, left, somes, around), seen(chance, pieces - 1 - left, somes, around))


def guessed(chance, kind):
    if kind == ("none",):
        return None
    if kind == ("number",):
        return chance.randrange(3)
    if kind[0] == "pair":
        return guessed(chance, kind[1]), guessed(chance, kind[2])
    at = chance.choice([1, 2])
    return ("this", "that")[at - 1], guessed(chance, kind[at])


def all_worths(kind, most):
    if kind == ("none",):
        return [None]
    if kind == ("number",):
        return list(range(most + 1))
    left, right = all_worths(kind[1], most), all_worths(kind[2], most)
    if len(left) * len(right) > 20000:
        return left * 20000
    if kind[0] == "pair":
        return [(one, other) for one in left for other in right]
    return [("this", one) for one in left] + [("that", other) for other in right]


class Making(unittest.TestCase):
    def test_what_is_made_by_chance(self):
        chance = random.Random(3)
        for _ in range(100):
            saying = seen(chance, 40, 3)
            self.assertTrue(is_seen(saying) and len(pieces_of(saying)) <= 40)
            self.assertTrue(is_flat(flat(chance, 40)))


if __name__ == "__main__":
    unittest.main()
