import unittest

from prooffruit.errors import GroundError, NoProgram
from prooffruit.programs import judged
from prooffruit.yields import yielded
from tests import oracle
from tests.making import Maker, spoiled
from tests.samples import GREAT, ODD, bush, nested, shared, slope, tower

NONE = ("none",)
NUMBER = ("number",)
PAIR = ("pair", NUMBER, ("either", NONE, NUMBER))
EITHER = ("either", PAIR, NONE)
FROM = ("from", PAIR, NUMBER)
NOTHING = ("nothing",)
FIVE = ("num", 5)
X = ("name", "x")
Y = ("name", "y")


def known(label, kind):
    return ("known", label, kind)


N = known("n", NUMBER)
P = known("p", PAIR)
E = known("e", EITHER)
F = known("f", FROM)
Q = known("q", NONE)

# Of programs of every word: the kind, the open names, the knowns.
RIGHT = [
    (NOTHING, NONE, "", ""), (("num", 0), NUMBER, "", ""), (("num", GREAT - 1), NUMBER, "", ""), (X, NUMBER, "x", ""),
    (("next", N), NUMBER, "", "n"), (("plus", X, Y), NUMBER, "xy", ""), (("times", Y, ("next", N)), NUMBER, "y", "n"),
    (P, PAIR, "", "p"), (Q, NONE, "", "q"), (("lets", "u", PAIR, X), ("from", PAIR, NUMBER), "x", ""),
    (("lets", "p", PAIR, ("pair", P, N)), ("from", PAIR, ("pair", PAIR, NUMBER)), "", "n"),
    (("for", "x", ("plus", X, Y)), ("from", NUMBER, NUMBER), "y", ""),
    (("for", "z", P), ("from", NUMBER, PAIR), "", "p"),
    (("call", F, P), NUMBER, "", "fp"), (("call", ("for", "x", X), Y), NUMBER, "y", ""),
    (("call", ("lets", "u", NUMBER, known("u", NUMBER)), FIVE), NUMBER, "", ""),
    (("pair", X, P), ("pair", NUMBER, PAIR), "x", "p"), (("first", P), NUMBER, "", "p"),
    (("second", P), ("either", NONE, NUMBER), "", "p"), (("parts", P, "x", "u", ("plus", X, Y)), NUMBER, "y", "p"),
    (("parts", P, "x", "u", known("u", PAIR[2])), PAIR[2], "", "p"), (("parts", P, "x", "u", NOTHING), NONE, "", "p"),
    (("this", X, PAIR), ("either", NUMBER, PAIR), "x", ""), (("that", PAIR, X), ("either", PAIR, NUMBER), "x", ""),
    (("this", NOTHING, NONE), ("either", NONE, NONE), "", ""), (("that", NONE, Q), ("either", NONE, NONE), "", "q"),
    (("cases", E, "u", ("first", known("u", PAIR)), "v", X), NUMBER, "x", "e"),
    (("cases", E, "u", NOTHING, "v", known("v", NONE)), NONE, "", "e"),
    (("climb", X, "x", "u", ("plus", X, known("u", NUMBER)), Y), NUMBER, "xy", ""),
    (("climb", P, "x", "u", ("pair", X, ("second", known("u", PAIR))), N), PAIR, "", "np"),
]
KINDS_OF_LABELS = {"n": NUMBER, "p": PAIR, "e": EITHER, "f": FROM, "q": NONE}


def told(thing):
    """The place at which a thing is refused, or None where it isn't."""
    try:
        judged(thing)
    except NoProgram as refusal:
        return refusal.place
    return None


class Right(unittest.TestCase):
    def test_every_word(self):
        for program, kind, names, labels in RIGHT:
            knowns = tuple((label, KINDS_OF_LABELS[label]) for label in labels)
            self.assertEqual(judged(program), (kind, tuple(names), knowns), program)

    def test_every_word_is_there(self):
        self.assertEqual(sorted({row[0][0] for row in RIGHT}), sorted(oracle.PROGRAM_FORMS))

    def test_rising(self):
        program = known("m", NUMBER)
        for word in ["v", "b", "zz", "a", "ab", "aa"]:
            program = ("plus", ("times", ("name", word), program), known(word, NUMBER))
        kind, names, knowns = judged(program)
        self.assertEqual(names, ("a", "aa", "ab", "b", "v", "zz"))
        self.assertEqual(knowns, tuple((label, NUMBER) for label in ("a", "aa", "ab", "b", "m", "v", "zz")))

    def test_names_and_labels_are_told_apart(self):
        program = ("for", "u", ("plus", known("u", NUMBER), ("name", "u")))
        self.assertEqual(judged(program), (("from", NUMBER, NUMBER), (), (("u", NUMBER),)))
        program = ("lets", "u", NUMBER, ("plus", known("u", NUMBER), ("name", "u")))
        self.assertEqual(judged(program), (("from", NUMBER, NUMBER), ("u",), ()))

    def test_by_name(self):
        self.assertEqual(judged(thing=NOTHING), (NONE, (), ()))


class Closed(unittest.TestCase):
    def test_names(self):
        for program, names in [
            (("for", "x", X), ()), (("plus", X, ("call", ("for", "x", X), Y)), ("x", "y")),
            (("for", "x", ("for", "x", X)), ()), (("parts", ("pair", X, Y), "x", "u", X), ("x", "y")),
            (("parts", ("pair", Y, Y), "x", "u", X), ("y",)), (("climb", X, "x", "u", FIVE, FIVE), ("x",)),
            (("climb", FIVE, "x", "u", X, FIVE), ()), (("climb", FIVE, "x", "u", FIVE, X), ("x",)),
            (("for", "y", ("climb", Y, "x", "u", ("plus", X, Y), X)), ("x",)),
        ]:
            self.assertEqual(judged(program)[1], names, program)

    def test_labels(self):
        u = known("u", NUMBER)
        either = ("this", u, NUMBER)
        for program, labels in [
            (("lets", "u", NUMBER, u), ()), (("plus", u, ("call", ("lets", "u", NUMBER, u), FIVE)), ("u",)),
            (("lets", "u", NUMBER, ("lets", "u", NUMBER, u)), ()), (("parts", ("pair", u, u), "x", "u", FIVE), ("u",)),
            (("parts", ("pair", FIVE, FIVE), "x", "u", u), ()), (("cases", either, "u", FIVE, "u", FIVE), ("u",)),
            (("cases", ("this", FIVE, NUMBER), "u", u, "v", FIVE), ()),
            (("cases", ("this", FIVE, NUMBER), "v", u, "u", FIVE), ("u",)),
            (("cases", ("this", FIVE, NUMBER), "v", FIVE, "u", u), ()),
            (("cases", ("this", FIVE, NUMBER), "u", FIVE, "v", u), ("u",)),
            (("climb", u, "x", "u", FIVE, FIVE), ("u",)), (("climb", FIVE, "x", "u", u, FIVE), ()),
            (("climb", FIVE, "x", "u", FIVE, u), ("u",)),
        ]:
            self.assertEqual(tuple(label for label, _ in judged(program)[2]), labels, program)

    def test_within_one_another_for_unlike_kinds(self):
        inner = ("lets", "u", PAIR, ("first", known("u", PAIR)))
        program = ("lets", "u", NUMBER, ("pair", inner, known("u", NUMBER)))
        self.assertEqual(judged(program)[2], ())
        self.assertEqual(told(("lets", "u", NUMBER, ("pair", inner, ("first", known("u", PAIR))))), ())

    def test_that_stand_nowhere(self):
        for program in [("for", "x", FIVE), ("lets", "u", PAIR, FIVE),
                        ("parts", P, "x", "u", FIVE), ("cases", E, "u", FIVE, "v", FIVE),
                        ("climb", FIVE, "x", "u", FIVE, FIVE)]:
            self.assertIsNone(told(program), program)

    def test_a_label_of_two_kinds(self):
        one, other = known("u", NUMBER), known("u", PAIR)
        for program in [("pair", one, other), ("call", known("u", ("from", NUMBER, NUMBER)), one),
                        ("parts", other, "x", "v", one),
                        ("cases", E, "a", one, "b", ("first", other)), ("climb", one, "x", "v", ("first", other), FIVE),
                        ("climb", FIVE, "x", "v", ("first", other), one), ("climb", other, "x", "v", other, one),
                        ("plus", ("first", other), one), ("cases", known("u", ("either", NUMBER, NUMBER)), "a", one,
                                                          "b", FIVE)]:
            self.assertEqual(told(program), (), program)

    def test_closed_for_another_kind(self):
        u = known("u", NUMBER)
        for program in [("lets", "u", PAIR, u), ("parts", P, "x", "u", u), ("cases", E, "u", u, "v", FIVE),
                        ("cases", E, "v", FIVE, "u", u),
                        ("climb", P, "x", "u", ("pair", u, ("second", P)), FIVE),
                        ("cases", E, "u", NOTHING, "v", ("parts", ("pair", u, known("v", NUMBER)), "x", "w", NOTHING))]:
            self.assertEqual(told(program), (), program)


class Conditions(unittest.TestCase):
    def test_each_alone(self):
        for program in [
            ("next", P), ("next", NOTHING), ("next", ("for", "x", X)), ("plus", P, FIVE), ("plus", FIVE, NOTHING),
            ("times", E, FIVE),
            ("times", FIVE, P), ("lets", "u", NONE, FIVE), ("lets", "u", NUMBER, NOTHING),
            ("lets", "u", NONE, NOTHING), ("for", "x", NOTHING), ("for", "x", Q),
            ("call", FIVE, FIVE), ("call", P, FIVE), ("call", F, FIVE), ("call", ("for", "x", X), P), ("call", E, P),
            ("call", ("for", "x", X), NOTHING),
            ("pair", NOTHING, FIVE), ("pair", FIVE, NOTHING), ("pair", Q, Q), ("first", FIVE), ("first", F),
            ("first", E), ("first", NOTHING),
            ("second", FIVE), ("second", F), ("second", E), ("parts", FIVE, "x", "u", FIVE),
            ("parts", ("pair", P, FIVE), "x", "u", FIVE),
            ("parts", F, "x", "u", FIVE), ("parts", ("this", FIVE, NUMBER), "x", "u", FIVE),
            ("parts", ("for", "x", X), "x", "u", FIVE),
            ("cases", P, "u", FIVE, "v", FIVE), ("cases", FIVE, "u", FIVE, "v", FIVE),
            ("cases", F, "u", FIVE, "v", FIVE),
            ("cases", E, "u", FIVE, "v", P), ("cases", E, "u", NOTHING, "v", FIVE),
            ("cases", NOTHING, "u", FIVE, "v", FIVE),
            ("climb", NOTHING, "x", "u", NOTHING, FIVE), ("climb", FIVE, "x", "u", P, FIVE),
            ("climb", P, "x", "u", FIVE, FIVE),
            ("climb", FIVE, "x", "u", FIVE, P), ("climb", FIVE, "x", "u", FIVE, NOTHING),
            ("climb", Q, "x", "u", Q, FIVE),
        ]:
            self.assertEqual(told(program), (), program)
            self.assertEqual(told(("pair", FIVE, program)), (1,), program)
            self.assertEqual(told(("climb", FIVE, "x", "u", FIVE, program)), (2,), program)

    def test_from_the_left_and_inner_ones_first(self):
        wrong, other = ("next", P), ("first", FIVE)
        self.assertEqual(told(("next", wrong)), (0,))
        self.assertEqual(told(("pair", wrong, other)), (0,))
        self.assertEqual(told(("pair", FIVE, other)), (1,))
        self.assertEqual(told(("cases", FIVE, "u", wrong, "v", other)), (1,))
        self.assertEqual(told(("cases", wrong, "u", wrong, "v", other)), (0,))
        self.assertEqual(told(("cases", FIVE, "u", FIVE, "v", other)), (2,))
        self.assertEqual(told(("climb", FIVE, "x", "u", FIVE, wrong)), (2,))
        self.assertEqual(told(("climb", FIVE, "x", "u", wrong, other)), (1,))
        self.assertEqual(told(("call", ("pair", FIVE, ("next", wrong)), other)), (0, 1, 0))

    def test_form_ahead_of_its_programs(self):
        wrong = ("next", P)
        self.assertEqual(told(("this", wrong, ("nones",))), ())
        self.assertEqual(told(("pair", wrong, ("this", wrong, NUMBER, NUMBER))), (0,))
        self.assertEqual(told(("pair", FIVE, ("this", wrong, NUMBER, NUMBER))), (1,))
        self.assertEqual(told(("pair", wrong, wrong, wrong)), ())

    def test_deep_within(self):
        program, place = ("plus", FIVE, NOTHING), ()
        for _ in range(60):
            program, place = ("cases", E, "u", FIVE, "v", ("next", program)), (2, 0) + place
        self.assertEqual(told(program), place)


MALFORMED = [
    ("nothing", 0), ("nothing", NOTHING), ("num",), ("num", -1), ("num", GREAT), ("num", True), ("num", False),
    ("num", None), ("num", "0"), ("num", 0, 0),
    ("num", FIVE), ("name",), ("name", ""), ("name", "X"), ("name", "abcdefghi"), ("name", 0), ("name", X),
    ("name", "x", "x"),
    ("next",), ("next", FIVE, FIVE), ("plus", FIVE), ("plus", FIVE, FIVE, FIVE), ("times", FIVE), ("known", "u"),
    ("known", "U", NUMBER),
    ("known", "u", NUMBER, NUMBER), ("known", "u", "number"), ("known", "u", ("pair", NONE, NUMBER)),
    ("known", "u", ("from", NUMBER, NONE)),
    ("known", "u", FIVE), ("known", NUMBER, "u"), ("known", "u", ["number"]), ("lets", "u", FIVE),
    ("lets", "", NUMBER, FIVE),
    ("lets", "u", ("nones",), FIVE), ("lets", "u", NUMBER, FIVE, FIVE), ("lets", "u", FIVE, NUMBER), ("for", "x"),
    ("for", "x1", FIVE), ("for", X, FIVE),
    ("for", "x", FIVE, FIVE), ("call", FIVE), ("call", F, P, P), ("pair", FIVE), ("pair", FIVE, FIVE, FIVE),
    ("first",), ("first", P, P), ("second",),
    ("second", P, P), ("parts", P, "x", "u"), ("parts", P, "x", FIVE), ("parts", P, "X", "u", FIVE),
    ("parts", P, "x", "abcdefghi", FIVE),
    ("parts", P, "x", "u", FIVE, FIVE), ("this", FIVE), ("this", FIVE, FIVE), ("this", NUMBER, FIVE),
    ("this", FIVE, NUMBER, NUMBER),
    ("this", FIVE, ("either", NONE, ("pair", NONE, NONE))), ("that", FIVE), ("that", FIVE, NUMBER),
    ("that", ("none", NONE), FIVE),
    ("cases", E, "u", FIVE, "v"), ("cases", E, "u", FIVE, FIVE), ("cases", E, "U", FIVE, "v", FIVE),
    ("cases", E, "u", FIVE, "", FIVE),
    ("cases", E, "u", FIVE, "v", FIVE, FIVE), ("climb", FIVE, "x", "u", FIVE),
    ("climb", FIVE, "x", "u", FIVE, FIVE, FIVE),
    ("climb", FIVE, "x y", "u", FIVE, FIVE), ("climb", FIVE, "x", 0, FIVE, FIVE), ("Nothing",), ("bound", 0),
    ("given", "u", NUMBER), ("open", FIVE),
    ("none",), NUMBER, (None,), (0,), ([],), ((),), (("num",), 0), (["num"], 0),
]


class Forms(unittest.TestCase):
    def test_malformed(self):
        for thing in MALFORMED:
            self.assertEqual(told(thing), (), thing)
            self.assertEqual(told(("pair", FIVE, ("for", "x", thing))), (1, 0), thing)
            self.assertEqual(told(("cases", thing, "u", ("next", P), "v", thing)), (0,), thing)

    def test_lists(self):
        for program, _, _, _ in RIGHT:
            self.assertEqual(told(list(program)), ())
            self.assertEqual(told(("for", "x", list(program))), (0,))

    def test_anything(self):
        things = ODD + ["nothing", [NOTHING], ("nothing",) * 100000, nested("x", 299, tuple), nested("x", 299, list),
                        nested(NOTHING, 290, tuple),
                        tower("nexts", FIVE, 299), nested((), 298, list)]
        for thing in things:
            if thing != ("nothing",):
                self.assertEqual(told(thing), (), repr(thing)[:80])
                self.assertEqual(told(("plus", FIVE, thing)), (1,), repr(thing)[:80])

    def test_anything_as_a_part(self):
        for thing in [thing for thing in ODD if not isinstance(thing, (str, int)) or isinstance(thing,
            bool)] + [nested("x", 290, list)]:
            for program in [("num", thing), ("name", thing), ("known", thing, NUMBER), ("known", "u", thing),
                            ("this", FIVE, thing),
                            ("lets", thing, NUMBER, FIVE), ("for", thing, FIVE)]:
                self.assertEqual(told(program), (), program)

    def test_beside_the_oracle(self):
        others = [row[0] for row in RIGHT]
        fine = 0
        for seed in range(120):
            maker = Maker(seed)
            program = yielded(maker.ground(size=4))
            for thing in [program] + [spoiled(maker.chance,
                                              maker.chance.choice([program, maker.chance.choice(others)]),
                                              others) for _ in range(6)]:
                try:
                    kind, names, knowns = oracle.program_told(thing)
                except oracle.Refused as refusal:
                    self.assertEqual(told(thing), refusal.told[0], thing)
                    continue
                self.assertEqual(judged(thing), (kind, tuple(sorted(names)), tuple(sorted(knowns.items()))), thing)
                fine += 1
            others.append(program)
        self.assertGreater(fine, 150)


class Sizes(unittest.TestCase):
    def test_within_one_another(self):
        for word, leaf in [("next", FIVE), ("next", X), ("next", N)]:
            for many, due in [(249, None), (250, None), (251, ()), (299, ()), (5000, ())]:
                self.assertEqual(told(tower(word, leaf, many)), due, many)
        for many, due in [(250, None), (251, ())]:
            self.assertEqual(told(slope("plus", FIVE, many)), due)
            self.assertEqual(told(("climb", FIVE, "x", "u", FIVE, slope("plus", FIVE, many - 1))), due)
            self.assertEqual(told(("climb", slope("plus", FIVE, many - 1), "x", "u", FIVE, FIVE)), due)

    def test_pieces(self):
        half = bush("plus", FIVE, 3000)
        for program, due in [(("plus", half, half), None), (("next", ("plus", half, half)), None),
                             (("next", ("next", ("plus", half, half))), ()),
                             (bush("plus", FIVE, 6001), ()), (bush("pair", FIVE, 6000), None),
                             (bush("plus", X, 100000), ())]:
            self.assertEqual(told(program), due)

    def test_far_more(self):
        for many in (14, 90, 248, 299):
            self.assertEqual(told(shared("plus", FIVE, many)), ())
            self.assertEqual(told(shared("call", P, many)), ())

    def test_a_greater_one_is_refused_ahead_of_all_else(self):
        wrong = ("next", P)
        self.assertEqual(told(bush("pair", wrong, 2000)), (0,) * 11)
        self.assertEqual(told(bush("pair", wrong, 6000)), ())
        self.assertEqual(told(tower("first", FIVE, 250)), (0,) * 248)
        self.assertEqual(told(tower("first", FIVE, 251)), ())

    def test_written_kinds_of_more_than_a_hundred_within_one_another(self):
        for many, due in [(99, None), (100, None), (101, ()), (250, ())]:
            kind = slope("pair", NUMBER, many)
            for program in [known("u", kind), ("this", FIVE, kind), ("that", kind, FIVE), ("lets", "u", kind, FIVE)]:
                self.assertEqual(told(program), due, many)
        self.assertEqual(told(known("u", shared("either", NUMBER, 60))), None)

    def test_kinds_of_what_is_made_may_be_further_within_one_another(self):
        program = FIVE
        for _ in range(249):
            program = ("for", "x", program)
        kind = judged(program)[0]
        for _ in range(249):
            self.assertEqual(kind[:2], ("from", NUMBER))
            kind = kind[2]
        self.assertEqual(kind, NUMBER)
        self.assertEqual(told(("for", "x", program)), ())
        program = known("u", slope("pair", NUMBER, 100))
        for _ in range(60):
            program = ("pair", program, FIVE)
        self.assertIsNone(told(("second", ("first", ("pair", program, FIVE)))))
        self.assertIsNone(told(("climb", program, "x", "v", program, FIVE)))


class HandedIn(unittest.TestCase):
    def test_things_are_as_they_were(self):
        inner = ["num", [0]]
        for thing in [inner, ("next", inner), ("known", "u", ["number"]), ("pair", FIVE, [inner])]:
            before = repr(thing)
            self.assertIsNotNone(told(thing))
            self.assertEqual(repr(thing), before)

    def test_refusals_are_ground_errors(self):
        with self.assertRaises(GroundError):
            judged(0)


if __name__ == "__main__":
    unittest.main()
