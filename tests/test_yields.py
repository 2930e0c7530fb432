import unittest

from prooffruit.errors import GroundError, NoGround, NoYield
from prooffruit.grounds import is_plain
from prooffruit.judge import grounded
from prooffruit.kinds import kind_of
from prooffruit.programs import judged
from prooffruit.runs import run
from prooffruit.yields import least, yielded
from tests.making import Maker
from tests.samples import B0, NO, NOUGHT, ONE, X, Y, bush, slope

NONE = ("none",)
NUMBER = ("number",)
PAIR = ("pair", NUMBER, NUMBER)
NOTHING = ("nothing",)

# Sayings of the kinds none, number, and an either.
A = ("same", X, ONE)
S = ("some", ("same", B0, X))
T = ("some", ("same", X, B0))
O = ("or", A, S)
EITHER = ("either", NONE, NUMBER)


def given(label, saying):
    return ("given", label, saying)


def known(label, kind=NUMBER):
    return ("known", label, kind)


a, b, s, t, o = given("a", A), given("b", A), given("s", S), given("t", T), given("o", O)

# Grounds of every word, and their yields.
YIELDS = [
    (a, NOTHING), (s, known("s")), (o, known("o", EITHER)), (given("p", ("all", S)),
        known("p", ("from", NUMBER, NUMBER))),
    (("lets", "u", S, s), ("lets", "u", NUMBER, known("s"))), (("lets", "s", S, s), ("lets", "s", NUMBER, known("s"))),
    (("lets", "u", A, s), known("s")), (("lets", "u", S, a), NOTHING), (("lets", "u", A, a), NOTHING),
    (("lets", "u", O, s), ("lets", "u", EITHER, known("s"))),
    (("uses", given("i", ("if", S, O)), s), ("call", known("i", ("from", NUMBER, EITHER)), known("s"))),
    (("uses", given("i", ("if", A, O)), a), known("i", EITHER)), (("uses", given("i", ("if", S, A)), s), NOTHING),
    (("uses", given("i", ("if", A, A)), a), NOTHING),
    (("both", s, o), ("pair", known("s"), known("o", EITHER))), (("both", a, s), known("s")),
    (("both", s, a), known("s")), (("both", a, a), NOTHING),
    (("first", given("c", ("and", S, O))), ("first", known("c", ("pair", NUMBER, EITHER)))),
    (("first", given("c", ("and", S, A))), known("c")),
    (("first", given("c", ("and", A, S))), NOTHING), (("first", given("c", ("and", A, A))), NOTHING),
    (("first", given("c", ("and", ("and", S, S), A))), known("c", PAIR)),
    (("second", given("c", ("and", A, ("and", S, S)))), known("c", PAIR)),
    (("second", given("c", ("and", S, O))), ("second", known("c", ("pair", NUMBER, EITHER)))),
    (("second", given("c", ("and", A, S))), known("c")),
    (("second", given("c", ("and", S, A))), NOTHING),
    (("this", s, O), ("this", known("s"), EITHER)), (("this", s, A), ("this", known("s"), NONE)),
    (("this", a, S), ("this", NOTHING, NUMBER)),
    (("this", a, A), ("this", NOTHING, NONE)), (("that", O, s), ("that", EITHER, known("s"))),
    (("that", A, s), ("that", NONE, known("s"))),
    (("that", S, a), ("that", NUMBER, NOTHING)), (("that", A, a), ("that", NONE, NOTHING)),
    (("cases", o, "u", s, "v", given("v", S)), ("cases", known("o", EITHER), "u", known("s"), "v", known("v"))),
    (("cases", o, "u", a, "v", a), NOTHING),
    (("for", "y", s), ("for", "y", known("s"))), (("for", "y", a), NOTHING),
    (("for", "x", ("such", ("same", B0, B0), X, ("equal", X))), ("for", "x", X)),
    (("at", given("p", ("all", S)), ("next", Y)), ("call", known("p", ("from", NUMBER, NUMBER)), ("next", Y))),
    (("at", given("p", ("all", A)), Y), NOTHING),
    (("such", ("same", B0, X), X, ("equal", X)), X), (("such", S, ("plus", X, Y), s),
                                                      ("pair", ("plus", X, Y), known("s"))),
    (("open", given("p", ("some", ("and", A, S))), "y", "u", ("second", given("u", ("and", A, S)))),
     ("parts", known("p", PAIR), "y", "u", known("u"))),
    (("open", given("p", ("some", ("same", B0, ONE))), "y", "u", s), ("call", ("for", "y", known("s")), known("p"))),
    (("open", given("p", ("some", S)), "y", "u", a), NOTHING), (("open", given("p", ("some", A)), "y", "u", a),
        NOTHING),
    (("open", given("p", ("some", ("and", S, S))), "y", "u", ("both", ("first", given("u", ("and", S, S))), s)),
     ("parts", known("p", ("pair", NUMBER, PAIR)), "y", "u", ("pair", ("first", known("u", PAIR)), known("s")))),
    (("absurd", given("n", NO), S), NOUGHT), (("absurd", given("n", NO), A), NOTHING),
    (("absurd", given("n", NO), O), ("this", NOTHING, NUMBER)),
    (("absurd", given("n", NO), ("if", S, T)), ("lets", "u", NUMBER, NOUGHT)),
    (("equal", X), NOTHING), (("put", ("equal", X), ("some", ("same", B0, ("bound", 1))), s), known("s")),
    (("put", given("e", A), ("same", B0, ONE), a), NOTHING),
    (("reckoned", ONE, ONE), NOTHING), (("sums", 0, X, Y), NOTHING), (("sums", 3, X, Y), NOTHING),
    (("down", given("d", ("same", ("next", X), ("next", Y)))), NOTHING),
    (("never", given("d", ("same", ("next", X), NOUGHT))), NOTHING),
    (("climb", S, s, "y", "u", given("u", S), ("next", X)), ("climb", known("s"), "y", "u", known("u"), ("next", X))),
    (("climb", A, a, "y", "u", given("u", A), X), NOTHING),
]


class Yields(unittest.TestCase):
    def test_every_word(self):
        for ground, program in YIELDS:
            self.assertEqual(yielded(ground), program, ground)

    def test_every_word_is_there(self):
        self.assertEqual(len({ground[0] for ground, _ in YIELDS}), 21)

    def test_as_judged(self):
        for ground, _ in YIELDS:
            self.judge(ground)

    def judge(self, ground):
        saying, givens = grounded(ground)
        kind, _, knowns = judged(yielded(ground))
        self.assertEqual(kind, kind_of(saying), ground)
        kinds = {label: kind_of(needs) for label, needs in givens}
        for label, known_kind in knowns:
            self.assertEqual(known_kind, kinds[label])

    def test_of_many_grounds(self):
        for seed in range(200):
            maker = Maker(seed)
            self.judge(maker.ground(size=4))

    def test_within_one_another(self):
        ground = ("first", ("both", ("this", ("such", ("same", B0, X), X, ("equal", X)), A), ("lets", "u", A, a)))
        self.assertEqual(yielded(ground), ("this", X, NONE))
        ground = ("first", ("both", ("lets", "u", S, given("u", S)), ("for", "y", s)))
        self.assertEqual(yielded(ground), ("first",
                                           ("pair", ("lets", "u", NUMBER, known("u")), ("for", "y", known("s")))))

    def test_great_ones(self):
        ground = bush("both", ("equal", NOUGHT), 50)
        self.assertEqual(yielded(ground), NOTHING)
        ground = ("such", ("same", B0, X), X, ("equal", X))
        for _ in range(98):
            ground = ("put", ("equal", X), S, ground)
        self.assertEqual(yielded(ground), X)

    def test_by_name(self):
        self.assertEqual(yielded(ground=s), known("s"))


class NoYields(unittest.TestCase):
    def place(self, ground):
        with self.assertRaises(NoYield) as held:
            yielded(ground)
        return held.exception.place

    TWICE = ("twice", ("lets", "k", ("if", A, NO), ("uses", given("k", ("if", A, NO)), a)))

    def test_the_whole(self):
        self.assertEqual(self.place(self.TWICE), ())
        self.assertEqual(self.place(("twice", ("lets", "k", ("if", A, NO),
                                               ("uses", given("k", ("if", A, NO)), self.TWICE)))), ())

    def test_in_each_ground(self):
        self.assertEqual(self.place(("first", ("both", self.TWICE, a))), (0, 0))
        self.assertEqual(self.place(("both", a, self.TWICE)), (1,))
        p = ("or", A, A)
        self.assertEqual(self.place(("cases", given("p", p), "u", a, "v", self.TWICE)), (2,))
        self.assertEqual(self.place(("cases", given("p", p), "u", self.TWICE, "v", self.TWICE)), (1,))
        self.assertEqual(self.place(("cases", ("this", self.TWICE, A), "u", self.TWICE, "v", self.TWICE)), (0, 0))
        self.assertEqual(self.place(("climb", A, a, "y", "u", self.TWICE, X)), (1,))
        self.assertEqual(self.place(("open", given("p", ("some", A)), "y", "u", self.TWICE)), (1,))

    def test_deep_within(self):
        ground, place = self.TWICE, ()
        for _ in range(20):
            ground, place = ("second", ("both", a, ("first", ("both", ground, a)))), (0, 1, 0, 0) + place
        self.assertEqual(self.place(ground), place)

    def test_a_whole_ahead_of_its_grounds_and_these_from_the_left(self):
        inner = ("twice", ("lets", "k", ("if", A, NO), ("uses", given("k", ("if", A, NO)), self.TWICE)))
        self.assertEqual(self.place(("both", a, inner)), (1,))
        self.assertEqual(self.place(("both", ("first", ("both", a, self.TWICE)), inner)), (0, 0, 1))
        self.assertEqual(self.place(("both", ("both", ("both", a, self.TWICE), a), ("both", self.TWICE, a))), (0, 0, 1))

    def test_where_nothing_would_be_told_of_it(self):
        self.assertEqual(self.place(("lets", "u", A, self.TWICE)), (0,))
        self.assertEqual(self.place(("both", s, self.TWICE)), (1,))

    def test_no_ground_goes_first(self):
        for ground, place, word in [(("both", self.TWICE, ("first", a)), (1,), "saying"),
                                    (("first", self.TWICE), (), "saying"), (("twice", a), (), "saying"),
                                    (("both", self.TWICE, None), (1,), "form"), (None, (), "form"),
                                    (("for", "x", ("both", a, self.TWICE)), (), "name"),
                                    (("both", self.TWICE, given("a", S)), (), "given"),
                                    (("both", self.TWICE, ("reckoned", ONE, NOUGHT)), (1,), "number")]:
            with self.assertRaises(NoGround) as held:
                yielded(ground)
            self.assertEqual((held.exception.place, held.exception.word), (place, word))

    def test_just_where_it_is_not_plain(self):
        for seed in range(100):
            ground = Maker(seed, plain=False).ground(detours=4)
            if is_plain(ground):
                yielded(ground)
            else:
                self.assertIsInstance(self.place(ground), tuple)

    def test_refusals_are_ground_errors(self):
        with self.assertRaises(GroundError):
            yielded(self.TWICE)


class Least(unittest.TestCase):
    def test_every_kind(self):
        for kind, program in [
            (NONE, NOTHING), (NUMBER, NOUGHT), (PAIR, ("pair", NOUGHT, NOUGHT)),
            (("either", NUMBER, PAIR), ("this", NOUGHT, PAIR)),
            (("either", NONE, NUMBER), ("this", NOTHING, NUMBER)), (("either", NUMBER, NONE), ("this", NOUGHT, NONE)),
            (("either", NONE, NONE), ("this", NOTHING, NONE)),
            (("from", PAIR, NUMBER), ("lets", "u", PAIR, NOUGHT)), (("from", NUMBER, ("from", PAIR, EITHER)),
                ("lets", "u", NUMBER, ("lets", "u", PAIR, ("this", NOTHING, NUMBER)))),
            (("pair", ("from", NUMBER, NUMBER), EITHER), ("pair", ("lets", "u", NUMBER, NOUGHT),
                                                          ("this", NOTHING, NUMBER))),
            (("pair", EITHER, ("either", NUMBER, NONE)), ("pair", ("this", NOTHING, NUMBER), ("this", NOUGHT, NONE))),
            (("either", ("either", PAIR, NONE), NONE), ("this", ("this", ("pair", NOUGHT, NOUGHT), NONE), NONE)),
        ]:
            self.assertEqual(least(kind), program, kind)
            self.assertEqual(judged(least(kind)), (kind, (), ()))

    def test_great_ones(self):
        for word in ("pair", "either", "from"):
            kind = slope(word, NUMBER, 100)
            self.assertEqual(judged(least(kind)), (kind, (), ()))
        kind = bush("pair", NUMBER, 1000)
        self.assertEqual(judged(least(kind))[0], kind)
        self.assertEqual(run(least(bush("either", NUMBER, 8)), {}), ("this", ("this", ("this", 0))))

    def test_of_the_kinds_of_sayings(self):
        for seed in range(200):
            kind = kind_of(Maker(seed).saying(["x"], 4))
            self.assertEqual(judged(least(kind)), (kind, (), ()))

    def test_by_name(self):
        self.assertEqual(least(kind=NUMBER), NOUGHT)


if __name__ == "__main__":
    unittest.main()
