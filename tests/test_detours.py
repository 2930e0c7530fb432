"""Point 17: where detours stand, and what comes when one is taken away."""

import unittest

from prooffruit.detours import detours, without
from prooffruit.errors import GroundError, NoGround, NoPlace
from prooffruit.grounds import grounds_of, parts_of
from prooffruit.judge import grounded
from prooffruit.kinds import has_from
from prooffruit.programs import judged
from prooffruit.putting import open_names
from prooffruit.runs import run
from prooffruit.sayings import put_in
from prooffruit.yields import yielded
from tests.making import Maker, part_at, with_part
from tests.oracle import apart, fresh_words, nameless, undone
from tests.samples import B0, B1, B2, GREAT, NO, NOUGHT, ODD, ONE, TRUE, X, Y, nested, tower

Z = ("name", "z")
A = ("same", X, ONE)
B = ("same", Y, NOUGHT)
C = ("same", Z, Z)


def num(n):
    return ("num", n)


def given(label, saying):
    return ("given", label, saying)


def by_parts(ground, place):
    """The place by parts of a place by grounds."""
    told = ()
    for at in place:
        told += ([part for part, what in enumerate(parts_of(ground), start=1) if what == "ground"][at],)
        ground = ground[told[-1]]
    return told


class Detours(unittest.TestCase):
    def check(self, ground, place=()):
        """What comes is alike to what the oracle tells, of the same saying, its givens among the elder's."""
        told = without(ground, place)
        whole = apart(ground, fresh_words(ground))
        at = by_parts(whole, place)
        self.assertEqual(nameless(told), nameless(with_part(whole, at, undone(part_at(whole, at)))), (ground, place))
        saying, givens = grounded(ground)
        new_saying, new_givens = grounded(told)
        self.assertEqual(new_saying, saying)
        self.assertLessEqual(set(new_givens), set(givens))
        self.assertLessEqual(set(open_names(told)), set(open_names(ground)))
        return told

    def none(self, ground):
        self.assertEqual(detours(ground), [], ground)
        with self.assertRaises(NoPlace):
            without(ground, ())


P, Q = given("p", A), given("q", B)
EQUAL = ("given", "e", ("same", X, Y))


class Forms(Detours):
    def test_halves(self):
        self.assertEqual(detours(("first", ("both", P, Q))), [()])
        self.assertEqual(self.check(("first", ("both", P, Q))), P)
        self.assertEqual(self.check(("second", ("both", P, Q))), Q)
        self.none(("first", given("u", ("and", A, B))))
        self.none(("both", P, Q))

    def test_uses(self):
        rule = ("lets", "u", A, ("both", given("u", A), Q))
        self.assertEqual(self.check(("uses", rule, P)), ("both", P, Q))
        self.assertEqual(self.check(("uses", ("lets", "u", A, Q), P)), Q)
        self.none(("uses", given("i", ("if", A, B)), P))
        self.none(rule)

    def test_at(self):
        self.assertEqual(self.check(("at", ("for", "x", ("equal", X)), Y)), ("equal", Y))
        self.assertEqual(self.check(("at", ("for", "x", ("equal", X)), ("next", X))), ("equal", ("next", X)))
        self.none(("at", given("u", ("all", TRUE)), X))

    def test_cases(self):
        left, right = ("that", B, given("u", A)), ("this", given("v", B), A)
        right = ("cases", given("o", ("or", B, A)), "k", right, "l", ("that", B, given("l", A)))
        # Here o, which the second side alone stands on, isn't needed any more.
        self.assertEqual(self.check(("cases", ("this", P, B), "u", left, "v", right)), ("that", B, P))
        whole = ("cases", ("that", A, Q), "u", left, "v", right)
        told = self.check(whole)
        self.assertEqual(told, ("cases", given("o", ("or", B, A)), "k", ("this", Q, A), "l",
                                ("that", B, given("l", A))))
        self.assertEqual(grounded(self.check(("cases", ("this", P, B), "u", left, "v", right)))[1], (("p", A),))
        self.none(("cases", given("o", ("or", A, B)), "u", left, "v", ("this", given("v", B), A)))

    def test_opened(self):
        some = ("such", ("same", B0, ONE), X, P)
        self.assertEqual(self.check(("open", some, "y", "u", ("such", ("same", B0, ONE), Y,
                                                             given("u", ("same", Y, ONE))))), some)
        self.assertEqual(self.check(("open", some, "z", "u", ("both", Q, ("equal", NOUGHT)))),
                         ("both", Q, ("equal", NOUGHT)))
        self.none(("open", given("s", ("some", TRUE)), "z", "u", Q))

    def test_first_ground_of_another_word(self):
        self.none(("second", given("u", ("and", A, B))))
        for ground in [("uses", ("first", given("u", ("and", ("if", A, B), A))), P),
                       ("at", ("first", given("u", ("and", ("all", TRUE), A))), X)]:
            self.none(ground)
        # What is no first ground doesn't count.
        self.assertEqual(detours(("both", ("both", P, Q), ("lets", "u", A, P))), [])

    def test_no_contrary_is_one(self):
        ground = ("twice", ("lets", "u", ("if", A, NO), ("uses", given("u", ("if", A, NO)), P)))
        self.none(ground)
        self.assertEqual(detours(("first", ("both", ground, ground))), [()])
        self.assertEqual(self.check(("first", ("both", ground, ground))), ground)
        inner = ("twice", ("lets", "u", ("if", A, NO), ("uses", given("u", ("if", A, NO)), ("first", ("both", P, Q)))))
        self.assertEqual(detours(inner), [(0, 0, 1)])
        self.assertEqual(self.check(inner, (0, 0, 1)), ground)


BODY = ("some", ("same", B0, ("plus", B1, ONE)))
START = ("such", put_in(BODY, NOUGHT)[1], ("plus", NOUGHT, ONE), ("equal", ("plus", NOUGHT, ONE)))
LAST = given("u", put_in(BODY, X))
HIGHER = ("plus", ("next", X), ONE)
TURN = ("open", LAST, "y", "v", ("such", put_in(BODY, ("next", X))[1], HIGHER, ("equal", HIGHER)))


def climb(term):
    return ("climb", BODY, START, "x", "u", TURN, term)


class Climbs(Detours):
    def test_at_nought(self):
        self.assertEqual(self.check(climb(NOUGHT)), START)

    def test_at_a_next(self):
        told = self.check(climb(("next", Z)))
        self.assertEqual(told[1], climb(Z))
        self.assertEqual(told[4][2], ("plus", ("next", Z), ONE))
        self.check(climb(("next", ("name", "y"))))
        self.check(climb(("next", X)))
        self.check(climb(("next", NOUGHT)))
        self.check(climb(("next", num(GREAT - 1))))
        self.check(climb(("next", ("times", num(GREAT - 1), num(GREAT - 1)))))

    def test_at_a_number(self):
        for n in (1, 2, 7, GREAT - 1):
            told = self.check(climb(num(n)))
            self.assertEqual(told[:3], ("put", ("reckoned", ("next", num(n - 1)), num(n)), BODY))
            self.assertEqual(told[3][1], climb(num(n - 1)))

    def test_at_another_closed_term(self):
        for term, n in [(("plus", ONE, num(2)), 3), (("times", ONE, NOUGHT), 0), (("plus", ("next", ONE), ONE), 3),
                        (("plus", num(GREAT - 2), ONE), GREAT - 1), (("times", num(10), num(10 ** 58)), 10 ** 59)]:
            told = self.check(climb(term))
            self.assertEqual(told, ("put", ("reckoned", num(n), term), BODY, climb(num(n))))

    def test_at_a_term_whose_worth_is_too_great_or_that_has_a_name(self):
        for term in [("plus", num(GREAT - 1), ONE), ("times", num(10 ** 30), num(10 ** 30)),
                     ("times", NOUGHT, ("plus", num(GREAT - 1), ONE)), X, Z, ("plus", X, NOUGHT), ("times", NOUGHT, Z),
                     ("plus", ("next", NOUGHT), Y)]:
            self.none(climb(term))

    def test_label_without_use(self):
        ground = ("climb", BODY, START, "x", "u", ("such", put_in(BODY, ("next", X))[1], HIGHER, ("equal", HIGHER)),
                  ("next", Z))
        self.assertEqual(self.check(ground), ("such", put_in(BODY, ("next", Z))[1], ("plus", ("next", Z), ONE),
                                              ("equal", ("plus", ("next", Z), ONE))))

    def test_closed_words_that_stand_in_what_is_put_in(self):
        body = ("same", ("plus", B0, Y), ("plus", B0, Y))
        start = ("first", ("both", ("equal", ("plus", NOUGHT, Y)), given("v", ("same", X, Y))))
        last = given("u", ("same", ("plus", Z, Y), ("plus", Z, Y)))
        more = ("equal", ("plus", ("next", Z), Y))
        # Both v and x of the start are open; in the turn they are closed around u.
        turn = ("uses", ("lets", "v", NO, ("second", ("both", ("for", "x", last), more))),
                ("absurd", given("n", NO), NO))
        for term in (("next", X), ("next", Y), ("next", Z), num(3), NOUGHT, ("plus", ONE, ONE)):
            self.check(("climb", body, start, "z", "u", turn, term))
        told = self.check(("climb", body, start, "z", "u", turn, ("next", X)))
        self.assertNotEqual(told[1][1], "v")
        self.assertEqual(dict(grounded(told)[1]), {"v": ("same", X, Y), "n": NO})

    def test_within_another_one(self):
        inner = ("climb", ("same", B0, B0), ("equal", NOUGHT), "x", "u", ("equal", ("next", X)), Y)
        ground = ("climb", ("same", B0, B0), ("equal", NOUGHT), "y", "u",
                  ("put", ("equal", ("next", Y)), ("same", B0, ("next", Y)),
                   ("first", ("both", ("equal", ("next", Y)), inner))), num(2))
        self.check(ground)
        self.check(ground, (1, 1))
        self.check(without(ground, (1, 1)))


class Puts(Detours):
    def test_both(self):
        body = ("and", ("same", B0, X), ("same", ONE, B0))
        ground = ("put", EQUAL, body, ("both", given("p", ("same", X, X)), given("q", ("same", ONE, X))))
        self.assertEqual(self.check(ground), ("both", ("put", EQUAL, body[1], given("p", ("same", X, X))),
                                              ("put", EQUAL, body[2], given("q", ("same", ONE, X)))))

    def test_sides(self):
        body = ("or", ("same", B0, X), ("same", ONE, B0))
        ground = ("put", EQUAL, body, ("this", ("equal", X), ("same", ONE, X)))
        self.assertEqual(self.check(ground), ("this", ("put", EQUAL, body[1], ("equal", X)), ("same", ONE, Y)))
        ground = ("put", EQUAL, body, ("that", ("same", X, X), given("q", ("same", ONE, X))))
        self.assertEqual(self.check(ground), ("that", ("same", Y, X),
                                              ("put", EQUAL, body[2], given("q", ("same", ONE, X)))))

    def test_lets(self):
        body = ("if", ("same", B0, ONE), ("same", ONE, B0))
        inner = ("put", given("v", A), ("same", B0, X), ("equal", X))
        ground = ("put", EQUAL, body, ("lets", "v", A, inner))
        back = ("put", ("put", EQUAL, ("same", B0, X), ("equal", X)), body[1], given("v", ("same", Y, ONE)))
        self.assertEqual(grounded(back)[0], A)
        self.assertEqual(self.check(ground), ("lets", "v", ("same", Y, ONE), (
            "put", EQUAL, body[2], ("put", back, ("same", B0, X), ("equal", X)))))
        self.check(("put", EQUAL, body, ("lets", "v", A, given("w", ("same", ONE, X)))))

    def test_lets_by_a_label_of_the_equation(self):
        body = ("if", ("same", B0, ONE), ("same", B0, ONE))
        told = self.check(("put", EQUAL, body, ("lets", "e", A, given("e", A))))
        self.assertNotEqual(told[1], "e")
        self.assertEqual(grounded(told)[1], (("e", EQUAL[2]),))
        # In the inner one, e is closed around v.
        inner = ("uses", ("lets", "e", NO, given("v", A)), given("n", NO))
        self.check(("put", EQUAL, body, ("lets", "v", A, inner)))
        self.check(("put", EQUAL, body, ("lets", "e", A, ("first", ("both", given("e", A), ("lets", "a", NO, P))))))

    def test_alls(self):
        body = ("all", ("or", ("same", B0, B1), ("all", ("same", B2, B1))))
        A1 = put_in(body, X)
        inner = ("absurd", given("n", NO), ("or", ("same", Z, X), ("all", ("same", X, Z))))
        ground = ("put", EQUAL, body, ("for", "z", inner))
        self.assertEqual(grounded(ground[3])[0], A1)
        rest = ("or", ("same", Z, B0), ("all", ("same", B1, Z)))
        self.assertEqual(self.check(ground), ("for", "z", ("put", EQUAL, rest, inner)))

    def test_all_by_a_name_of_the_equation(self):
        body = ("all", ("same", ("plus", B0, B1), ("plus", B0, B1)))
        for name in ("y", "x", "z", "k"):
            # With x, what is grounded would speak of x no more.
            left = X if name != "x" else Z
            equation = given("e", ("same", left, Y))
            term = ("name", name)
            ground = ("put", equation, body, ("for", name, ("equal", ("plus", term, left))))
            told = self.check(ground)
            self.assertEqual(told[0], "for")
            self.assertEqual(told[1] == name, name != "y")
        # The name stands in the equation's ground, but in nothing that is seen.
        equation = ("first", ("both", ("equal", X), ("equal", ("name", "k"))))
        ground = ("put", equation, body, ("for", "k", ("equal", ("plus", ("name", "k"), X))))
        self.assertNotEqual(self.check(ground)[1], "k")

    def test_somes(self):
        body = ("some", ("and", ("same", B0, B1), ("some", ("same", B2, B1))))
        inner = ("both", ("equal", X), ("such", ("same", X, X), ONE, ("equal", X)))
        ground = ("put", EQUAL, body, ("such", put_in(body, X)[1], X, inner))
        told = self.check(ground)
        self.assertEqual(told, ("such", ("and", ("same", B0, Y), ("some", ("same", Y, B1))), X, (
            "put", EQUAL, ("and", ("same", X, B0), ("some", ("same", B1, X))), inner)))

    def test_bounds_of_further_out_stay(self):
        body = ("all", ("some", ("all", ("or", ("same", B0, B1), ("or", ("same", B2, ("bound", 3)), NO)))))
        inner = ("some", ("all", ("or", ("same", B0, B1), ("or", ("same", Z, X), NO))))
        self.check(("put", EQUAL, body, ("for", "z", ("absurd", given("n", NO), inner))))

    def test_own_word_is_another_one(self):
        body = ("and", ("same", B0, X), TRUE)
        self.none(("put", EQUAL, body, given("g", ("and", ("same", X, X), TRUE))))
        self.none(("put", EQUAL, ("same", B0, X), ("equal", X)))
        self.none(("put", EQUAL, NO, given("n", NO)))
        self.none(("put", EQUAL, ("same", B0, B0), ("equal", X)))
        self.none(("put", EQUAL, ("or", ("same", B0, X), NO), given("g", ("or", ("same", X, X), NO))))
        self.none(("put", EQUAL, ("if", ("same", B0, X), NO), given("g", ("if", ("same", X, X), NO))))
        self.none(("put", EQUAL, ("all", ("same", B1, B0)), given("g", ("all", ("same", X, B0)))))
        self.none(("put", EQUAL, ("some", ("same", B1, B0)), given("g", ("some", ("same", X, B0)))))

    def test_equations_of_other_words(self):
        body = ("and", ("same", B0, B0), TRUE)
        two = ("both", ("equal", NOUGHT), ("equal", NOUGHT))
        for equation in [("reckoned", NOUGHT, ("times", NOUGHT, ONE)), ("equal", NOUGHT),
                         ("put", ("reckoned", NOUGHT, ("times", ONE, NOUGHT)), ("same", NOUGHT, B0), ("equal", NOUGHT)),
                         ("first", ("both", ("equal", NOUGHT), P)), ("down", ("equal", ONE_)),
                         ("uses", given("r", ("if", A, ("same", NOUGHT, Y))), P)]:
            if grounded(equation)[0][1] == NOUGHT:
                self.check(("put", equation, body, two))

    def test_body_without_its_bound(self):
        self.assertEqual(self.check(("put", EQUAL, ("and", A, B), ("both", P, Q))),
                         ("both", ("put", EQUAL, A, P), ("put", EQUAL, B, Q)))
        self.check(("put", EQUAL, ("all", ("same", B0, B0)), ("for", "y", ("equal", Y))))
        self.check(("put", EQUAL, ("if", A, B), ("lets", "e", A, Q)))


ONE_ = ("next", NOUGHT)


class Words(Detours):
    def test_names_exchanged_ahead(self):
        self.check(("at", ("for", "x", ("for", "y", ("both", ("equal", X), ("equal", Y)))), Y))
        self.assertNotEqual(without(("at", ("for", "x", ("for", "y", ("equal", ("plus", X, Y)))), Y), ()),
                            ("for", "y", ("equal", ("plus", Y, Y))))
        self.check(("at", ("for", "x", ("for", "x", ("equal", X))), Y))
        self.check(("uses", ("lets", "u", A, ("for", "x", ("first", ("both", given("v", TRUE), ("equal", X))))), P))
        self.check(("uses", ("lets", "u", B, ("for", "x", given("u", B))), ("first", ("both", Q, P))))
        # x of the term isn't the one that open closes in the second ground.
        some = ("such", ("same", B0, ("next", X)), ("next", X), ("equal", ("next", X)))
        rest = ("such", ("same", B0, B0), Y, ("for", "x", ("equal", Y))[2])
        self.check(("open", some, "y", "u", ("first", ("both", rest, ("for", "x", ("equal", ("plus", X, Y)))))))

    def test_names_where_the_shown_one_speaks_of_what_is_closed(self):
        # The x of p isn't the x that open closes: p stands outside.
        some = ("such", ("same", B0, B0), X, ("first", ("both", ("equal", X), given("k", A))))
        rest = ("second", ("both", given("u", ("same", X, X)), ("equal", NOUGHT)))
        told = self.check(("open", some, "x", "u", rest))
        self.assertEqual(grounded(told)[1], (("k", A),))
        self.assertEqual(told, ("second", ("both", some[3], ("equal", NOUGHT))))
        some = ("such", ("same", B0, B0), ("next", X), ("first", ("both", ("equal", ("next", X)), given("k", A))))
        told = self.check(("open", some, "x", "u", rest))
        self.assertEqual(told, ("second", ("both", some[3], ("equal", NOUGHT))))

    def test_labels_exchanged_ahead(self):
        told = self.check(("uses", ("lets", "u", A, ("lets", "p", B, given("u", A))), P))
        self.assertEqual(grounded(told), (("if", B, A), (("p", A),)))
        told = self.check(("uses", ("lets", "u", A, ("lets", "u", B, given("u", B))), P))
        self.assertEqual(told, ("lets", "u", B, given("u", B)))
        # The same label is open in what is put in.
        self.assertEqual(self.check(("uses", ("lets", "p", A, P), P)), P)
        told = self.check(("cases", ("this", given("v", A), B), "u", ("lets", "v", B, given("u", A)), "v",
                           ("lets", "w", B, ("absurd", given("n", NO), A))))
        self.assertEqual(grounded(told)[1], (("v", A),))


class Places(Detours):
    def test_order(self):
        inner = ("first", ("both", P, ("second", ("both", Q, Q))))
        ground = ("both", ("uses", ("lets", "u", A, inner), inner), ("both", Q, ("at", ("for", "x", ("equal", X)), X)))
        due = [(0,), (0, 0, 0), (0, 0, 0, 0, 1), (0, 1), (0, 1, 0, 1), (1, 1)]
        self.assertEqual(detours(ground), due)
        for place in due:
            self.check(ground, place)

    def test_in_each_ground(self):
        inner = ("first", ("both", P, Q))
        whole = ("cases", ("first", ("both", given("o", ("or", B, C)), Q)), "u", inner, "v", inner)
        self.assertEqual(detours(whole), [(0,), (1,), (2,)])
        for place in detours(whole):
            self.check(whole, place)
        turn = ("second", ("both", Q, TURN))
        whole = ("climb", BODY, ("first", ("both", START, P)), "x", "u", turn, Z)
        self.assertEqual(detours(whole), [(0,), (1,)])
        for place in detours(whole):
            self.check(whole, place)

    def test_deep_within(self):
        ground = ("first", ("both", P, Q))
        for _ in range(48):
            ground = ("uses", given("i", ("if", A, A)), ground)
        self.assertEqual(detours(ground), [(1,) * 48])
        self.check(ground, (1,) * 48)

    def test_more_than_ten_in_a_row(self):
        ground = P
        for _ in range(30):
            ground = ("first", ("both", ground, Q))
        self.assertEqual(detours(ground), [(0,) * (2 * n) for n in range(30)])

    def test_a_new_list_each_time(self):
        ground = ("first", ("both", P, Q))
        told = detours(ground)
        self.assertIsInstance(told, list)
        told.append(())
        self.assertEqual(detours(ground), [()])

    def test_none(self):
        for ground in [P, ("equal", X), ("both", P, Q), ("for", "x", ("lets", "u", A, ("this", Q, B))), climb(Z)]:
            self.none(ground)


class Refusals(unittest.TestCase):
    def refused(self, ground, place):
        with self.assertRaises(NoPlace) as held:
            without(ground, place)
        self.assertIsInstance(held.exception, GroundError)
        return held.exception.place

    def test_no_place(self):
        ground = ("both", ("first", ("both", P, Q)), ("both", Q, ("second", ("both", P, Q))))
        self.assertEqual(detours(ground), [(0,), (1, 1)])
        for place in [(), (1,), (2,), (0, 0), (0, 0, 0), (1, 1, 0, 0, 0), (-1,), (-2,), (0,) * 500, [0], [1, 1], "0",
                      "", "01", None, 0, 1, True, False, (False,), (True, True), (1, True), (True, 1), (0, None),
                      ("0",), ((0,),), ((),), [], (GREAT,), nested(0, 298, tuple), nested(0, 299, list), ground, X]:
            told = self.refused(ground, place)
            self.assertIs(told, place)
        for thing in ODD:
            if thing != ():
                self.assertIs(self.refused(("first", ("both", P, Q)), thing), thing)
        self.assertEqual(self.refused(P, ()), ())

    def test_place_is_a_tuple_of_numbers(self):
        ground = ("for", "x", ("both", P_, ("first", ("both", P_, P_))))
        self.assertEqual(detours(ground), [(0, 1)])
        for place in [(False, True), (0, True), (False, 1), [0, 1], (0, 1, None)]:
            self.refused(ground, place)

    def test_no_ground_goes_first(self):
        wrong = ("first", ("both", P, ("uses", P, Q)))
        for place in ((), (0,), None):
            with self.assertRaises(NoGround) as held:
                without(wrong, place)
            self.assertEqual((held.exception.place, held.exception.word), ((0, 1), "saying"))
        with self.assertRaises(NoGround) as held:
            detours(wrong)
        self.assertEqual((held.exception.place, held.exception.word), ((0, 1), "saying"))
        for thing in ODD:
            for told in (detours, lambda thing: without(thing, ())):
                with self.assertRaises(NoGround) as held:
                    told(thing)
                self.assertEqual((held.exception.place, held.exception.word), ((), "form"))

    def test_greater_than_may_be_handed_in(self):
        for thing in [tower("twice", P, 101), ("first", ("both", tower("twice", P, 100), P)), nested(P, 290, tuple)]:
            for told in (detours, lambda thing: without(thing, ())):
                with self.assertRaises(NoGround) as held:
                    told(thing)
                self.assertEqual((held.exception.place, held.exception.word), ((), "form"))

    def test_by_name(self):
        ground = ("first", ("both", P, Q))
        self.assertEqual(detours(ground=ground), [()])
        self.assertEqual(without(place=(), ground=ground), P)


P_ = ("given", "p", TRUE)


class ByChance(Detours):
    def test_beside_the_oracle(self):
        words = {}
        worths = 0
        for seed in range(260):
            maker = Maker(seed + 5000, plain=seed % 3 > 0)
            ground = maker.ground(size=3, detours=3)
            for place in detours(ground):
                told = self.check(ground, place)
                word = part_at(ground, by_parts(ground, place))[0]
                words[word] = words.get(word, 0) + 1
                worths += self.same_worth(maker, ground, told) if maker.plain else 0
        for word in ("first", "second", "uses", "at", "cases", "open", "climb", "put"):
            self.assertGreater(words[word], 10, words)
        self.assertGreater(worths, 100)

    def same_worth(self, maker, ground, told):
        """Whether there is a worth that yields tell: it is the same one then."""
        kind, _, knowns = judged(yielded(ground))
        if knowns or has_from(kind):
            return False
        numbers = {name: maker.chance.randrange(4) for name in open_names(ground)}
        self.assertEqual(run(yielded(told), numbers), run(yielded(ground), numbers), ground)
        return True

    def test_all_places_beside_the_oracle(self):
        for seed in range(80):
            ground = Maker(seed + 9000).ground(size=3, detours=3)
            whole = apart(ground, fresh_words(ground))
            todo, due = [((), whole)], []
            while todo:
                place, piece = todo.pop()
                if piece[0] not in ("given", "lets", "for", "this", "that", "such", "both", "equal", "reckoned", "sums",
                                    "twice", "absurd", "down", "never") and undone(piece) is not None:
                    due.append(place)
                todo.extend((place + (at,), inner) for at, inner in enumerate(grounds_of(piece)))
            self.assertEqual(detours(ground), sorted(due))


if __name__ == "__main__":
    unittest.main()
