"""Point 20: grounds freed of contraries."""

import unittest

from prooffruit.errors import NoGround
from prooffruit.freed import freed
from prooffruit.grounds import is_plain
from prooffruit.judge import grounded
from prooffruit.putting import alike, open_names
from prooffruit.runs import run
from prooffruit.sayings import put_in, taken
from prooffruit.terms import worth
from prooffruit.yields import yielded
from tests.contraries import by_contraries, either_or_not, given, without_limits
from tests.samples import B0, B1, B2, NO, NOUGHT, ODD, ONE, TRUE, X, Y, nested, tower
from tests.test_promise import halves

Z = ("name", "z")
A = ("same", X, ONE)


def num(n):
    return ("num", n)


def shown(left, right, name=None):
    """A ground of (some (same b0 right)), by the left, which is the right one."""
    return ("such", ("same", B0, right), left, ("equal", right) if left == right else name)


SUM = ("plus", X, Y)
SAME_SUM = shown(SUM, SUM)
SELF = shown(X, X)


class Freed(unittest.TestCase):
    def check(self, ground, *rows):
        """What comes is plain, without givens, of the same saying, and its yield tells a number for each row."""
        told = freed(ground)
        saying, givens = grounded(ground)
        self.assertEqual(givens, ())
        self.assertIs(is_plain(told), True)
        self.assertEqual(without_limits(grounded, told), (saying, ()), ground)
        self.assertEqual(open_names(told), [])
        self.runs(saying, told, rows)
        return told

    def runs(self, saying, told, rows):
        body, alls = saying, 0
        while body[0] == "all":
            body, alls = body[1], alls + 1
        for row in rows or [[0] * alls, [1] * alls, list(range(2, alls + 2)), [5] * alls]:
            program, closed = yielded(told), saying
            for number in row:
                program, closed = ("call", program, num(number)), put_in(closed[1], num(number))
            found = run(program, {}, limit=100000)
            equation = put_in(closed[1], num(found))
            self.assertEqual(worth(equation[1], {}), worth(equation[2], {}), (row, found))


class BySayings(Freed):
    def test_no_all(self):
        ground = ("such", ("same", ("times", B0, B0), num(9)), num(3), ("reckoned", ("times", num(3), num(3)), num(9)))
        told = self.check(by_contraries(ground))
        self.assertEqual(run(yielded(told), {}), 3)
        self.check(by_contraries(by_contraries(ground), "v"))
        self.check(("such", ("same", B0, B0), num(3), by_contraries(("equal", num(3)))))
        self.check(("such", TRUE, ("times", num(2), num(4)), by_contraries(("equal", NOUGHT))))

    def test_one_all_two_and_more(self):
        self.check(("for", "x", by_contraries(SELF)))
        self.check(by_contraries(("for", "x", SELF)))
        self.check(("for", "y", ("for", "x", by_contraries(SAME_SUM))))
        self.check(("for", "x", by_contraries(("for", "y", by_contraries(SAME_SUM)))))
        self.check(by_contraries(("for", "y", by_contraries(("for", "x", by_contraries(SAME_SUM, "a")), "b")), "c"))
        last = ("plus", ("times", X, Y), ("times", Z, ("name", "a")))
        four = by_contraries(shown(last, last))
        for name in ("x", "y", "z", "a"):
            four = ("for", name, four)
        self.check(four)
        self.check(("for", "x", ("for", "y", by_contraries(SELF))))
        deep = by_contraries(SELF)
        for _ in range(20):
            deep = ("for", "x", deep)
        self.check(deep)

    def test_plain_ones(self):
        for ground in [shown(ONE, ONE), ("for", "x", SELF), ("for", "x", ("for", "y", SAME_SUM))]:
            told = self.check(ground)
            self.assertIs(alike(told, ground) or is_plain(told), True)


class ByGrounds(Freed):
    def test_of_no_some(self):
        # (if (some E) no) is led to no: by contraries the some holds.
        some = ("some", ("same", B0, X))
        against = given("u", ("if", some, NO))
        other = ("for", "y", ("lets", "v", ("same", Y, X), ("uses", against, ("such", some[1], Y, given("v", (
            "same", Y, X))))))
        absurd = ("uses", ("at", other, X), ("equal", X))
        self.check(("for", "x", ("twice", ("lets", "u", against[2], absurd))))

    def test_of_alls_within(self):
        # (if (all (if E no)) no), then what is shown by contraries of it.
        body = ("same", B0, ("next", X))
        some = ("some", body)
        against = given("u", ("if", some, NO))
        every = ("for", "y", ("lets", "v", put_in(body, Y), ("uses", against, ("such", body, Y, given("v", put_in(
            body, Y))))))
        no_all = ("lets", "w", ("all", ("if", body, NO)), ("uses", ("at", given("w", ("all", ("if", body, NO))), (
            "next", X)), ("equal", ("next", X))))
        self.check(("for", "x", ("twice", ("lets", "u", against[2], ("uses", no_all, every)))))

    def test_within_one_another(self):
        ground = SELF
        for label in "abcdefghijkl":
            ground = by_contraries(ground, label)
        self.check(("for", "x", ground))

    def test_cases(self):
        for saying in [("same", X, num(3)), ("some", ("same", X, ("plus", B0, B0))),
                       ("all", ("or", ("same", B0, X), NO)),
                       ("if", ("same", X, ONE), ("and", ("same", X, X), NO)),
                       ("and", ("some", ("same", B0, X)), ("all", NO))]:
            left = shown(X, X)
            right = ("open", by_contraries(SELF, "k"), "y", "l", shown(X, X))
            self.check(("for", "x", ("cases", either_or_not(saying), "p", left, "q", right)))
            self.check(("for", "x", by_contraries(("cases", either_or_not(saying), "p", left, "q", right), "r")))

    def test_cases_that_tell_something(self):
        # x is 3 or it isn't; then x times x is 9, or is what it is.
        body = ("same", ("times", X, X), B0)
        three = ("same", X, num(3))
        left = ("such", body, ("times", X, num(3)), ("put", given("p", three), (
            "same", ("times", X, X), ("times", X, B0)), ("equal", ("times", X, X))))
        right = ("such", body, ("times", X, X), ("equal", ("times", X, X)))
        ground = ("for", "x", ("cases", either_or_not(three), "p", left, "q", right))
        self.check(ground, [0], [3], [4])

    def test_climbs(self):
        # By contraries at each turn: some number is x + 1, from such a number of the one below.
        body = ("some", ("same", B0, ("plus", B1, ONE)))
        start = ("such", put_in(body, NOUGHT)[1], ("plus", NOUGHT, ONE), ("equal", ("plus", NOUGHT, ONE)))
        more = ("plus", ("next", X), ONE)
        shows = ("such", put_in(body, ("next", X))[1], more, ("equal", more))
        turn = by_contraries(("open", given("u", put_in(body, X)), "y", "v", shows), "k")
        ground = ("for", "z", ("climb", body, start, "x", "u", turn, Z))
        self.check(ground)
        self.check(("for", "z", ("climb", body, by_contraries(start), "x", "u", turn, Z)), [0], [1], [8])
        self.check(by_contraries(ground, "j"))

    def test_climbs_whose_turns_use_what_came(self):
        # Twice x: from y = x + x, next (next y) = next x + next x.
        body = ("some", ("same", B0, ("times", B1, num(2))))
        start = ("such", put_in(body, NOUGHT)[1], ("times", NOUGHT, num(2)), ("equal", ("times", NOUGHT, num(2))))
        told = given("v", ("same", Y, ("times", X, num(2))))
        double = ("times", ("next", X), num(2))
        shows = ("such", put_in(body, ("next", X))[1], double, ("equal", double))
        shows = ("first", ("both", shows, told))
        turn = by_contraries(("open", by_contraries(given("u", put_in(body, X)), "h"), "y", "v", shows), "k")
        self.check(("for", "z", ("climb", body, start, "x", "u", turn, Z)))

    def test_halves(self):
        # By contraries that x is a twice or the next one of one; of either the number that it is told to be.
        double = ("plus", X, X)
        ground = ("open", by_contraries(halves(X), "k"), "y", "v", (
            "cases", given("v", put_in(put_in_half(X), Y)), "e", shown(double, double), "o",
            by_contraries(shown(double, double), "w")))
        self.check(("for", "x", ground))

    def test_puts_between(self):
        equation = by_contraries(("reckoned", ("plus", ONE, ONE), num(2)), "a")
        body = ("some", ("same", ("plus", ("bound", 0), NOUGHT), B1))
        inner = ("such", ("same", ("plus", B0, NOUGHT), ("plus", ONE, ONE)), num(2),
                 ("reckoned", ("plus", num(2), NOUGHT), ("plus", ONE, ONE)))
        self.check(("put", equation, body, inner))
        self.check(("put", equation, body, by_contraries(inner, "b")))
        self.check(("put", ("reckoned", ("plus", ONE, ONE), num(2)), body, by_contraries(inner, "b")))
        sums = by_contraries(("sums", 1, X, Y), "c")
        inner = shown(("plus", X, ("next", Y)), ("plus", X, ("next", Y)))
        self.check(("for", "x", ("for", "y", ("put", sums, ("some", ("same", B0, B1)), inner))))

    def test_down_and_never(self):
        next_same = by_contraries(("equal", ("next", X)))
        self.check(("for", "x", ("such", ("same", B0, X), X, ("down", next_same))))
        # From a wrong equation all comes; it is a given that is closed.
        wrong = ("lets", "u", ("same", ("next", X), NOUGHT), (
            "absurd", ("never", given("u", ("same", ("next", X), NOUGHT))), ("some", ("same", B0, X))))
        ground = ("cases", either_or_not(("same", ("next", X), NOUGHT), "a", "b"), "p",
                  ("uses", wrong, given("p", ("same", ("next", X), NOUGHT))), "q", SELF)
        self.check(("for", "x", ground))
        lower = ("down", given("u", ("same", ("next", ("next", X)), ONE_)))
        other = ("lets", "u", lower[1][2], ("absurd", ("never", by_contraries(lower, "m")), ("some", ("same", B0, X))))
        self.check(("for", "x", ("cases", either_or_not(other[2], "a", "b"), "p", ("uses", other, given("p", other[2])),
                                 "q", SELF)))

    def test_sides_and_opens(self):
        two = ("that", ("all", NO), ("this", SELF, ("some", NO)))
        some = grounded(SELF)[0]
        second = ("open", given("s", ("some", NO)), "y", "t", ("absurd", given("t", NO), some))
        second = ("cases", given("q", grounded(two)[0][2]), "r", given("r", some), "s", second)
        first = ("absurd", ("at", given("p", ("all", NO)), ONE), some)
        inner = ("cases", by_contraries(two, "a"), "p", first, "q", second)
        self.check(("for", "x", inner))
        deep = ("such", ("some", ("and", ("same", B0, B1), ("same", B1, X))), X,
                ("such", ("and", ("same", B0, X), ("same", X, X)), X, ("both", ("equal", X), ("equal", X))))
        some = put_in(deep[1], Y)
        opened = ("open", by_contraries(deep, "a"), "y", "p", ("open", given("p", some), "z", "q", (
            "such", ("same", B0, X), Y, ("second", given("q", put_in(some[1], Z))))))
        self.check(("for", "x", opened))

    def test_rules_by_contraries(self):
        rule = by_contraries(("for", "y", ("lets", "p", ("same", Y, X), ("such", ("same", B0, X), Y, given("p", (
            "same", Y, X))))), "a")
        self.check(("for", "x", ("uses", ("at", rule, X), by_contraries(("equal", X), "b"))))
        self.check(("for", "x", ("uses", ("at", by_contraries(rule, "c"), X), ("equal", X))))
        pair = by_contraries(("both", SELF, ("for", "y", SAME_SUM)), "a")
        self.check(("for", "x", ("first", pair)))
        self.check(("for", "x", ("second", pair)))

    def test_great_plain_parts(self):
        # What doesn't go by contraries isn't made greater: so what comes can still be handed in.
        row = [halves(X)] * 20
        while len(row) > 1:
            row = [("both", row[k], row[k + 1]) for k in range(0, len(row) - 1, 2)] + row[len(row) - len(row) % 2:]
        ground = ("for", "x", ("cases", either_or_not(("same", X, num(3))), "p", by_contraries(SELF, "k"), "q", (
            "first", ("both", SELF, row[0]))))
        self.check(ground)
        deep = SELF
        for _ in range(70):
            deep = ("put", ("equal", X), ("some", ("same", B0, X)), deep)
        self.check(("for", "x", by_contraries(deep)))

    def test_names_and_labels_of_eight_letters(self):
        name = ("name", "abcdefgh")
        ground = ("for", "abcdefgh", by_contraries(shown(name, name), "zzzzzzzz"))
        self.check(ground)
        for word in "abcdefghuvwxyz":
            name = ("name", word)
            self.check(("for", word, by_contraries(shown(name, name), word)))
            self.check(("for", word, ("for", word, by_contraries(by_contraries(shown(name, name), word), "b"))))
        many = SELF
        for word in "abcdefghijklmnopqrstuvwxyz":
            many = ("uses", ("lets", word, ("same", ("name", word), ("name", word)), many), ("equal", ("name", word)))
        many = by_contraries(many, "zz")
        for word in "abcdefghijklmnopqrstuvwxyz":
            many = ("for", word, many)
        self.check(many, list(range(26)))


ONE_ = ("next", NOUGHT)


def put_in_half(term):
    """What halves says of a term, but for the number."""
    return put_in(taken(grounded(halves(X))[0], "x"), term)[1]


class Refusals(unittest.TestCase):
    def refused(self, thing):
        with self.assertRaises(NoGround) as held:
            freed(thing)
        return held.exception.place, held.exception.word

    def test_no_right_ground(self):
        self.assertEqual(self.refused(("for", "x", ("uses", SELF, SELF))), ((0,), "saying"))
        for thing in ODD + [tower("twice", SELF, 101), nested(SELF, 290, tuple)]:
            self.assertEqual(self.refused(thing), ((), "form"))

    def test_givens(self):
        some = ("some", ("same", B0, B0))
        self.assertEqual(self.refused(given("u", some)), ((), "given"))
        self.assertEqual(self.refused(by_contraries(given("v", some))), ((), "given"))
        self.assertEqual(self.refused(("for", "x", given("u", some))), ((), "given"))
        self.assertEqual(self.refused(("for", "x", ("first", ("both", SELF, given("u", A_()))))), ((), "given"))

    def test_another_form_of_saying(self):
        for ground in [("equal", ONE), ("for", "x", ("equal", X)), ("both", shown(ONE, ONE), shown(ONE, ONE)),
                       ("such", ("some", ("same", B0, B1)), ONE, shown(ONE, ONE)),
                       ("for", "x", ("such", ("and", TRUE, TRUE), X, ("both", ("equal", NOUGHT), ("equal", NOUGHT)))),
                       ("such", ("all", ("same", B0, B0)), ONE, ("for", "x", ("equal", X))),
                       ("lets", "u", NO, shown(ONE, ONE)), ("this", shown(ONE, ONE), NO),
                       ("such", ("all", ("some", ("same", B0, B1))), NOUGHT, ("for", "x", SELF))]:
            self.assertEqual(self.refused(ground), ((), "saying"))
            self.assertEqual(self.refused(by_contraries(ground)), ((), "saying"))

    def test_names(self):
        self.assertEqual(self.refused(SELF), ((), "saying"))
        self.assertEqual(self.refused(by_contraries(SELF)), ((), "saying"))
        self.assertEqual(self.refused(("for", "x", SAME_SUM)), ((), "saying"))
        # A name that doesn't stand in the saying is let by.
        for ground in [("second", ("both", ("equal", Y), shown(ONE, ONE))), ("such", ("same", B0, B0), Y, ("equal", Y)),
                       ("for", "z", ("such", ("same", B0, B0), ("plus", Y, Z), ("equal", ("plus", Y, Z))))]:
            for whole in (ground, by_contraries(ground), ("second", ("both", ("equal", X), by_contraries(ground)))):
                told = freed(whole)
                self.assertEqual(grounded(told), (grounded(ground)[0], ()))
                self.assertIs(is_plain(told), True)
                program = yielded(told) if ground[0] != "for" else ("call", yielded(told), num(3))
                self.assertIsInstance(run(program, {}), int)
                self.assertIsInstance(run(program, {"x": 2, "y": 5}), int)

    def test_two_at_once(self):
        wrong = ("uses", given("u", A), given("v", A))
        self.assertEqual(self.refused(("both", given("u", NO), wrong)), ((1,), "saying"))
        self.assertEqual(self.refused(given("u", NO)), ((), "given"))
        self.assertEqual(self.refused(given("u", ("some", ("same", B0, X)))), ((), "given"))
        self.assertEqual(self.refused(("for", "y", given("u", A))), ((), "given"))

    def test_by_name(self):
        self.assertEqual(grounded(freed(ground=("for", "x", SELF)))[0], ("all", ("some", ("same", B0, B1))))


def A_():
    return ("same", NOUGHT, ONE)


if __name__ == "__main__":
    unittest.main()
