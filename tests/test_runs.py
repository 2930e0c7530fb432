import unittest

from prooffruit.errors import GroundError, NoNumber, NoProgram, NoWorth, TooMany
from prooffruit.programs import judged
from prooffruit.runs import is_worth, run
from prooffruit.yields import yielded
from tests import oracle
from tests.making import Maker
from tests.samples import GREAT, ODD, bush, nested, shared, slope, tower

NONE = ("none",)
NUMBER = ("number",)
PAIR = ("pair", NUMBER, NUMBER)
EITHER = ("either", NUMBER, NONE)
FROM = ("from", NUMBER, NUMBER)
NOTHING = ("nothing",)
X = ("name", "x")
Y = ("name", "y")
LAST = GREAT - 1


def num(n):
    return ("num", n)


def known(label, kind=NUMBER):
    return ("known", label, kind)


def counted(program, numbers=None, limit=20000):
    """The worth and the steps that it takes, told by the oracle."""
    runner = oracle.Runner()
    return runner.run(program, numbers or {}, {}), runner.steps


class IsWorth(unittest.TestCase):
    def test_numbers(self):
        for thing in (0, 1, 7, LAST):
            self.assertIs(is_worth(NUMBER, thing), True)
        for thing in (-1, GREAT, GREAT + 1, True, False, None, "0", "", (), (0,), [0], num(0), (0, 0), ("this", 0)):
            self.assertIs(is_worth(NUMBER, thing), False, thing)

    def test_none(self):
        self.assertIs(is_worth(NONE, None), True)
        for thing in (0, False, "", (), [], (None,), "none", NONE, ("this", None)):
            self.assertIs(is_worth(NONE, thing), False, thing)

    def test_pairs(self):
        for thing in ((0, 0), (3, LAST)):
            self.assertIs(is_worth(PAIR, thing), True)
        for thing in ((), (0,), (0, 0, 0), [0, 0], (0, None), (None, 0), (True, 0), (0, False), (0, -1), (GREAT, 0), 0,
                      None, "ab", "00",
                      ("this", 0), (0, (0,)), ((0, 0), 0), {}):
            self.assertIs(is_worth(PAIR, thing), False, thing)

    def test_eithers(self):
        for kind, thing in [(EITHER, ("this", 0)), (EITHER, ("that", None)), (("either", NONE, NONE), ("this", None)),
                            (("either", NONE, PAIR), ("that", (1, 2))),
                            (("either", EITHER, NONE), ("this", ("this", 4)))]:
            self.assertIs(is_worth(kind, thing), True, thing)
        for thing in [("this", None), ("that", 0), ("This", 0), ("these", 0), ("this",), ("this", 0, 0), ["this", 0],
                      ("", 0), (0, 0), (None, None), "this", None, 0,
                      ("that", ()), ("this", True), (("this",), 0), (["this"], 0), ("this", ("this", 0)),
                      ("that", ("that", None)), (), ("th", "is")]:
            self.assertIs(is_worth(EITHER, thing), False, thing)

    def test_within_one_another(self):
        kind = ("pair", ("either", PAIR, NONE), ("pair", NUMBER, ("either", NONE, NUMBER)))
        for thing, due in [((("this", (1, 2)), (3, ("that", 4))), True), ((("that", None), (0, ("this", None))), True),
                           ((("that", (1, 2)), (3, ("that", 4))), False),
                           ((("this", (1, True)), (3, ("that", 4))), False),
                           ((("this", (1, 2)), (3, ("this", 4))), False),
                           ((("this", (1, 2)), (None, ("that", 4))), False),
                           (((3, ("that", 4)), ("this", (1, 2))), False),
                           ((("this", (1, 2)), [3, ("that", 4)]), False)]:
            self.assertIs(is_worth(kind, thing), due, thing)

    def test_things_of_every_sort(self):
        for thing in [thing for thing in ODD if thing not in (0, 1, GREAT,
            (0, 0)) or thing is True or thing is False] + [nested(0, 299, tuple), nested(None, 299, list),
                                                           (0,) * 100000, shared(0, 0, 200)]:
            for kind in (NUMBER, PAIR, EITHER, ("pair", EITHER, PAIR), ("either", PAIR, PAIR)):
                self.assertIs(is_worth(kind, thing), False, kind)
                self.assertIs(is_worth(("pair", NUMBER, kind), (0, thing)), False)
                self.assertIs(is_worth(("either", kind, NONE), ("this", thing)), False)
            self.assertIs(is_worth(NONE, thing), thing is None)

    def test_great_ones(self):
        self.assertIs(is_worth(slope("pair", NUMBER, 100), slope_of(0, 100)), True)
        self.assertIs(is_worth(slope("pair", NUMBER, 100), slope_of(0, 99)), False)
        self.assertIs(is_worth(slope("pair", NUMBER, 100), slope_of(-1, 100)), False)

    def test_by_name(self):
        self.assertIs(is_worth(thing=0, kind=NUMBER), True)


def slope_of(leaf, many):
    thing = leaf
    for _ in range(many - 1):
        thing = (leaf, thing)
    return thing


DOUBLE = ("for", "x", ("plus", X, X))
PAIRED = ("pair", num(4), ("pair", num(5), ("this", num(6), NONE)))

# Programs, the numbers they are run for, their worth and the steps it takes.
RUNS = [
    (NOTHING, {}, None, 1), (num(7), {}, 7, 1), (num(LAST), {}, LAST, 1), (X, {"x": 4}, 4, 1),
    (("next", X), {"x": 4}, 5, 2),
    (("plus", X, Y), {"x": 4, "y": 6}, 10, 3), (("times", X, ("next", Y)), {"x": 4, "y": 6}, 28, 4),
    (("times", num(0), X), {"x": LAST}, 0, 3),
    (("call", ("lets", "u", NUMBER, ("next", known("u"))), num(3)), {}, 4, 5), (("call", DOUBLE, num(3)), {}, 6, 6),
    (("call", DOUBLE, X), {"x": 5}, 10, 6),
    (("pair", X, num(2)), {"x": 1}, (1, 2), 3), (PAIRED, {}, (4, (5, ("this", 6))), 6), (("first", PAIRED), {}, 4, 7),
    (("second", PAIRED), {}, (5, ("this", 6)), 7),
    (("parts", PAIRED, "x", "u", ("plus", X, ("first", known("u", ("pair", NUMBER, EITHER))))), {}, 9, 11),
    (("this", num(1), NONE), {}, ("this", 1), 2), (("that", NUMBER, NOTHING), {}, ("that", None), 2),
    (("cases", ("this", num(1), NONE), "u", known("u"), "v", num(9)), {}, 1, 4),
    (("cases", ("that", NUMBER, NOTHING), "u", known("u"), "v", num(9)), {}, 9, 4),
    (("cases", ("that", NUMBER, num(5)), "u", num(0), "v", ("next", known("v"))), {}, 6, 5),
    (("climb", num(5), "x", "u", known("u"), num(0)), {}, 5, 3),
    (("climb", num(5), "x", "u", ("next", known("u")), num(3)), {}, 8, 9),
    (("climb", num(0), "x", "u", ("plus", X, known("u")), num(5)), {}, 10, 18),
    (("climb", num(1), "x", "u", ("times", ("next", X), known("u")), num(5)), {}, 120, 23),
    (("climb", num(9), "x", "u", X, num(4)), {}, 3, 7), (("climb", X, "x", "u", ("plus", X, X), X), {"x": 3}, 4, 12),
]


class Runs(unittest.TestCase):
    def test_worths(self):
        for program, numbers, worth, _ in RUNS:
            self.assertEqual(run(program, numbers), worth, program)

    def test_kinds_of_worths(self):
        for program, numbers, worth, _ in RUNS:
            told = run(program, numbers)
            self.assertIs(type(told), type(worth))
            self.assertIs(is_worth(judged(program)[0], told), True)

    def test_just_enough_steps_and_one_fewer(self):
        for program, numbers, worth, steps in RUNS:
            self.assertEqual(counted(program, numbers)[1], steps, program)
            self.assertEqual(run(program, numbers, limit=steps), worth)
            for limit in (steps - 1, 0):
                with self.assertRaises(TooMany):
                    run(program, numbers, limit=limit)

    def test_the_limit_if_nothing_is_said(self):
        program = ("climb", num(0), "x", "u", X, num(19997))
        self.assertEqual(run(program, {}), 19996)
        with self.assertRaises(TooMany):
            run(program[:5] + (num(19998),), {})
        self.assertEqual(run(program[:5] + (num(30000),), {}, limit=10 ** 6), 29999)

    def test_a_limit_of_nought(self):
        for program, numbers, _, _ in RUNS:
            with self.assertRaises(TooMany):
                run(program, numbers, limit=0)
        self.assertEqual(run(NOTHING, {}, limit=1), None)

    def test_sides_not_told_are_not_gone_into(self):
        great = ("next", num(LAST))
        self.assertEqual(run(("cases", ("this", num(1), NUMBER), "u", num(2), "v", great), {}), 2)
        self.assertEqual(run(("cases", ("that", NUMBER, num(1)), "u", great, "v", num(2)), {}), 2)
        self.assertEqual(run(("call", ("lets", "u", FROM, num(3)), ("for", "x", great)), {}), 3)
        self.assertEqual(run(("climb", num(3), "x", "u", great, num(0)), {}), 3)

    def test_all_else_is_gone_into(self):
        great = ("next", num(LAST))
        for program in [("first", ("pair", num(1), great)), ("second", ("pair", great, num(1))),
                        ("call", ("for", "x", num(1)), great),
                        ("climb", great, "x", "u", num(1), num(1)), ("times", num(0), great), ("times", great, num(0)),
                        ("parts", ("pair", num(0), great), "x", "u", X), ("climb", num(0), "x", "u", num(1), great)]:
            with self.assertRaises(TooMany):
                run(program, {})

    def test_numbers_that_are_too_great(self):
        for program in [("next", num(LAST)), ("plus", num(LAST), num(1)), ("plus", num(1), num(LAST)),
                        ("times", num(LAST), num(2)), ("times", num(10 ** 30), num(10 ** 30))]:
            with self.assertRaises(TooMany):
                run(program, {})
        self.assertEqual(run(("next", num(LAST - 1)), {}), LAST)
        self.assertEqual(run(("times", num(10 ** 29), num(10 ** 30)), {}), 10 ** 59)
        self.assertEqual(run(("plus", num(LAST), num(0)), {}), LAST)

    def test_a_name_whose_number_is_too_great(self):
        for number in (GREAT, GREAT + 5, GREAT ** 2):
            with self.assertRaises(TooMany):
                run(X, {"x": number})
            with self.assertRaises(TooMany):
                run(("times", num(0), X), {"x": number})
            program = ("cases", ("this", num(1), NUMBER), "u", num(2), "v", X)
            self.assertEqual(run(program, {"x": number}), 2)
            self.assertEqual(run(("call", ("lets", "u", FROM, num(3)), ("for", "y", X)), {"x": number}), 3)
            self.assertEqual(run(num(1), {"x": number}), 1)
        self.assertEqual(run(X, {"x": LAST}), LAST)

    def test_what_was_known_and_named_stands(self):
        # A for that is made where x is 1 and called where it is 2.
        add = ("for", "y", ("plus", ("times", num(10), X), Y))
        program = ("call", ("for", "x", ("call", ("lets", "f", FROM,
                                                  ("call", ("for", "x", ("call", known("f", FROM), X)), num(2))),
                                                  add)), num(1))
        self.assertEqual(run(program, {}), 12)
        self.assertEqual(run(program, {"x": 7}), 12)
        # A lets that is made where u is 1 and called where it is 2.
        keep = ("lets", "v", NUMBER, ("plus", ("times", num(10), known("u")), known("v")))
        program = ("call", ("lets", "u", NUMBER, ("call",
                                                  ("lets", "f", FROM, ("call",
                                                      ("lets", "u", NUMBER, ("call", known("f", FROM), known("u"))),
                                                      num(2))), keep)), num(1))
        self.assertEqual(run(program, {}), 12)

    def test_what_is_closed_stands_there_alone(self):
        program = ("plus", ("call", ("for", "x", X), num(5)), X)
        self.assertEqual(run(program, {"x": 1}), 6)
        program = ("pair", ("parts", ("pair", num(7), num(8)), "x", "u", ("plus", X, known("u"))), X)
        self.assertEqual(run(program, {"x": 1}), (15, 1))
        program = ("plus", ("climb", X, "x", "u", ("plus", X, known("u")), X), X)
        self.assertEqual(run(program, {"x": 4}), 4 + 6 + 4)
        program = ("call", ("lets", "u", NUMBER, ("plus",
                                                  ("cases", ("this", num(3), NONE), "u", known("u"), "v", num(0)),
                                                  known("u"))), num(5))
        self.assertEqual(run(program, {}), 8)
        program = ("call", ("lets", "u", NUMBER, ("plus",
                                                  ("cases", ("that", NONE, num(3)), "v", num(0), "u", known("u")),
                                                  known("u"))), num(5))
        self.assertEqual(run(program, {}), 8)
        program = ("call", ("lets", "u", NUMBER, ("plus", ("climb", num(0), "x", "u", ("next", known("u")), num(2)),
                                                  known("u"))), num(5))
        self.assertEqual(run(program, {}), 7)

    def test_turns_of_a_for_that_is_told(self):
        # Each turn tells a for that calls the one of the turn ahead: x of each stands in its own.
        start = ("for", "y", Y)
        turn = ("for", "y", ("call", known("f", FROM), ("plus", ("times", num(10), Y), X)))
        program = ("call", ("climb", start, "x", "f", turn, num(4)), num(7))
        self.assertEqual(run(program, {}), 73210)

    def test_calls_far_within_one_another(self):
        start = ("for", "y", Y)
        turn = ("for", "y", ("next", ("call", known("f", FROM), Y)))
        program = ("call", ("climb", start, "x", "f", turn, num(3900)), num(0))
        self.assertEqual(run(program, {}), 3900)
        program = ("call", ("climb", start, "x", "f", turn, num(40000)), num(0))
        self.assertEqual(run(program, {}, limit=10 ** 6), 40000)
        turn = ("for", "y", ("call", known("f", FROM), ("next", Y)))
        program = ("call", ("climb", start, "x", "f", turn, num(40000)), num(0))
        self.assertEqual(run(program, {}, limit=10 ** 6), 40000)

    def test_worths_far_within_one_another(self):
        either = ("either", NUMBER, NUMBER)
        start = ("this", num(0), NUMBER)
        program = ("climb", start, "x", "u", ("cases", known("u", either), "v", ("that", NUMBER, ("next", known("v"))),
                                              "w", ("this", ("next", known("w")), NUMBER)), num(2001))
        self.assertEqual(run(program, {}), ("that", 2001))

    def test_programs_of_the_greatest_size(self):
        self.assertEqual(run(("next", bush("plus", num(2), 6000)), {}), 12001)
        self.assertEqual(run(tower("next", num(0), 250), {}), 249)
        self.assertEqual(run(("this", num(0), shared("either", NUMBER, 60)), {}), ("this", 0))

    def test_beside_the_oracle(self):
        ran = 0
        for seed in range(250):
            maker = Maker(seed)
            program = yielded(maker.ground(size=4, detours=4))
            kind, names, knowns = judged(program)
            if knowns or "from" in repr(kind):
                continue
            numbers = {name: maker.chance.randrange(6) for name in names}
            worth, steps = counted(program, numbers)
            self.assertEqual(run(program, numbers, limit=steps), worth, program)
            with self.assertRaises(TooMany):
                run(program, numbers, limit=steps - 1)
            ran += 1
        self.assertGreater(ran, 100)


class Refusals(unittest.TestCase):
    def refused(self, made, program, numbers, **more):
        with self.assertRaises(made) as held:
            run(program, numbers, **more)
        return held.exception

    def test_no_program(self):
        for thing, place in [(None, ()), ([], ()), (("next", NOTHING), ()),
                             (("pair", num(1), ("next", NOTHING)), (1,)), (("next", ("num", True)), (0,))]:
            self.assertEqual(self.refused(NoProgram, thing, {}).place, place)

    def test_knowns_that_are_open(self):
        for program in [known("u"), ("next", known("u")), ("pair", num(1), ("next", known("u"))),
                        ("call", ("lets", "v", NUMBER, known("u")), num(1)), known("u", NONE)]:
            self.assertEqual(self.refused(NoProgram, program, {}).place, ())

    def test_a_from(self):
        for program, kind in [(DOUBLE, FROM), (("lets", "u", NUMBER, num(0)), FROM),
                              (("pair", num(0), DOUBLE), ("pair", NUMBER, FROM)),
                              (("this", num(0), FROM), ("either", NUMBER, FROM)),
                              (("that", ("pair", NUMBER, FROM), NOTHING), ("either", ("pair", NUMBER, FROM), NONE)),
                              (("pair", DOUBLE, num(0)), ("pair", FROM, NUMBER)),
                              (("pair", DOUBLE, DOUBLE), ("pair", FROM, FROM))]:
            self.assertEqual(self.refused(NoWorth, program, {}).thing, kind)

    def test_a_name_without_number(self):
        for program, numbers, name in [(X, {}, "x"), (("plus", Y, X), {}, "x"), (("plus", Y, X), {"x": 1}, "y"),
                                       (("plus", X, Y), {"y": 1}, "x"),
                                       (("cases", ("this", num(0), NONE), "u", num(1), "v", X), {}, "x"),
                                       (("call", ("for", "x", X), Y), {"x": 1}, "y"),
                                       (("climb", num(0), "x", "u", Y, num(0)), {}, "y"),
                                       (("plus", ("name", "b"), ("name", "ab")), {}, "ab")]:
            self.assertEqual(self.refused(NoNumber, program, numbers).name, name)

    def test_names_that_are_not_open_need_no_number(self):
        self.assertEqual(run(("call", DOUBLE, num(2)), {}), 4)
        self.assertEqual(run(("call", DOUBLE, num(2)), {"x": 9, "q": 3}), 4)
        self.assertEqual(run(num(0), {"x": 9, "q": GREAT}), 0)

    def test_which_comes_first(self):
        great = ("next", num(LAST))
        wrong = ("next", NOTHING)
        opened = ("pair", DOUBLE, ("plus", known("u"), ("plus", X, great)))
        self.assertEqual(self.refused(NoProgram, ("pair", opened, wrong), {}, limit=0).place, (1,))
        self.assertEqual(self.refused(NoProgram, opened, {}, limit=0).place, ())
        self.assertEqual(self.refused(NoWorth, ("pair", DOUBLE, ("plus", X, great)), {}, limit=0).thing,
                         ("pair", FROM, NUMBER))
        self.assertEqual(self.refused(NoNumber, ("plus", great, X), {}, limit=0).name, "x")
        self.refused(TooMany, ("plus", great, X), {"x": 0}, limit=0)

    def test_numbers_stay_as_they_were(self):
        numbers = {"y": 2, "x": 1}
        run(("parts", ("pair", X, Y), "x", "u", ("climb", X, "y", "v", X, Y)), numbers)
        self.refused(NoNumber, ("plus", X, ("name", "z")), numbers)
        self.refused(TooMany, X, numbers, limit=0)
        self.assertEqual(list(numbers.items()), [("y", 2), ("x", 1)])

    def test_numbers_are_not_kept(self):
        numbers = {"x": 1}
        self.assertEqual(run(X, numbers), 1)
        numbers["x"] = 2
        self.assertEqual(run(X, numbers), 2)
        del numbers["x"]
        self.assertEqual(self.refused(NoNumber, X, numbers).name, "x")

    def test_by_name(self):
        self.assertEqual(run(numbers={"x": 3}, program=X, limit=1), 3)
        with self.assertRaises(TypeError):
            run(X, {"x": 3}, 5)

    def test_refusals_are_ground_errors(self):
        for program in (None, known("u"), DOUBLE, X, ("next", num(LAST))):
            self.assertIsInstance(self.refused(GroundError, program, {}), GroundError)


if __name__ == "__main__":
    unittest.main()
