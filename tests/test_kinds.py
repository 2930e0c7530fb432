import random
import unittest

from prooffruit.kinds import is_kind, kind_of
from tests import oracle
from tests.making import Maker, spoiled
from tests.samples import B0, B1, NO, NOUGHT, ODD, ONE, TRUE, X, Y, bush, nested, shared, slope, tower

NONE = ("none",)
NUMBER = ("number",)
PAIR = ("pair", NUMBER, NUMBER)
EITHER = ("either", NONE, NUMBER)
FROM = ("from", NUMBER, PAIR)

KINDS = [NONE, NUMBER, PAIR, EITHER, FROM, ("either", NONE, NONE), ("either", NUMBER, NONE), ("either", EITHER, FROM),
         ("pair", EITHER, FROM), ("from", EITHER, EITHER), ("from", FROM, FROM),
         ("pair", ("either", NONE, NONE), NUMBER)]

SOME = ("some", ("same", B0, X))
OR = ("or", NO, NO)


class IsKind(unittest.TestCase):
    def test_kinds(self):
        for kind in KINDS:
            self.assertIs(is_kind(kind), True, kind)

    def test_each_word_with_each_two(self):
        for left in KINDS:
            for right in KINDS:
                self.assertIs(is_kind(("either", left, right)), True)
                for word in ("pair", "from"):
                    self.assertIs(is_kind((word, left, right)), NONE not in (left, right), (word, left, right))

    def test_none_within(self):
        for word in ("pair", "from"):
            for wrong in [(word, NONE, NUMBER), (word, NUMBER, NONE), (word, NONE, NONE)]:
                self.assertIs(is_kind(wrong), False)
                for around in [("either", NONE, wrong), ("either", wrong, NUMBER), ("pair", NUMBER, wrong),
                               ("from", wrong, NUMBER),
                               ("either", wrong, wrong), ("pair", wrong, wrong)]:
                    self.assertIs(is_kind(around), False)

    def test_a_part_too_few_and_too_many(self):
        for kind in KINDS:
            self.assertIs(is_kind(kind[:-1]), False, kind)
            for more in (NONE, NUMBER, "number", None, 0):
                self.assertIs(is_kind(kind + (more,)), False, kind)

    def test_lists(self):
        for kind in KINDS:
            self.assertIs(is_kind(list(kind)), False)
            self.assertIs(is_kind(("either", kind, list(kind))), False)
            self.assertIs(is_kind(("either", list(kind), kind)), False)
        self.assertIs(is_kind((["none"],)), False)

    def test_other_things(self):
        things = ODD + ["none", "number", ("None",), ("numbers",), ("NUMBER",), NO, TRUE, X, ("either",),
                        ("either", 0, 1),
                        ("two", NUMBER, NUMBER), ("all", NUMBER), ("none", "none"), (NONE,), ((NONE, NONE),),
                        ("", NUMBER, NUMBER),
                        (None, NUMBER, NUMBER), (("pair",), NUMBER, NUMBER), ("number", NUMBER, NUMBER),
                        ("none", NONE, NONE)]
        for thing in things:
            self.assertIs(is_kind(thing), False, thing)
            for kind in [("pair", thing, NUMBER), ("pair", NUMBER, thing), ("from", thing, NUMBER),
                         ("from", NUMBER, thing),
                         ("either", thing, NONE), ("either", NONE, thing), ("either", ("either", thing, thing), NONE),
                         ("either", thing, thing)]:
                self.assertIs(is_kind(kind), False, kind)

    def test_within_one_another(self):
        for word, leaf in [("either", NONE), ("either", NUMBER), ("pair", NUMBER), ("from", NUMBER)]:
            for many, due in [(99, True), (100, True), (101, False), (150, False), (299, False)]:
                self.assertIs(is_kind(slope(word, leaf, many)), due, (word, many))
                left = leaf
                for _ in range(many - 1):
                    left = (word, left, NUMBER)
                self.assertIs(is_kind(left), due, (word, many))

    def test_far_within_one_another(self):
        for leaf in ("number", NUMBER, None, ()):
            for thing in [nested(leaf, 298, tuple), nested(leaf, 298, list), tower("either", leaf, 299),
                          ("either", nested(leaf, 297, tuple), nested(leaf, 297, tuple)),
                          ("either", NONE, nested(leaf, 297, list))]:
                self.assertIs(is_kind(thing), False)

    def test_great_ones(self):
        self.assertIs(is_kind(bush("pair", NUMBER, 5000)), True)
        self.assertIs(is_kind(bush("either", NONE, 5000)), True)
        self.assertIs(is_kind(("number",) * 1000000), False)
        for many, due in [(60, True), (99, True), (100, False), (298, False)]:
            self.assertIs(is_kind(shared("either", NUMBER, many)), due)
        self.assertIs(is_kind(shared("either", ("numbers",), 60)), False)
        self.assertIs(is_kind(("either", shared("pair", NUMBER, 290), shared("pair", NUMBER, 290))), False)

    def test_beside_the_oracle(self):
        chance = random.Random(1)
        for _ in range(600):
            thing = spoiled(chance, chance.choice(KINDS), KINDS)
            self.assertIs(is_kind(thing), oracle.is_kind(thing), thing)

    def test_by_name(self):
        self.assertIs(is_kind(thing=NONE), True)


class KindOf(unittest.TestCase):
    def test_every_word(self):
        # The kind of A, or a number, stands behind each saying A whose kind isn't none.
        for saying, kind in [
            (TRUE, NONE), (NO, NONE), (("same", X, Y), NONE),
            (("and", NO, TRUE), NONE), (("and", SOME, TRUE), NUMBER), (("and", NO, SOME), NUMBER),
            (("and", SOME, SOME), PAIR),
            (("and", SOME, OR), ("pair", NUMBER, ("either", NONE, NONE))),
            (("or", NO, TRUE), ("either", NONE, NONE)), (("or", SOME, TRUE), ("either", NUMBER, NONE)),
            (("or", TRUE, SOME), ("either", NONE, NUMBER)), (("or", SOME, OR),
                ("either", NUMBER, ("either", NONE, NONE))),
            (("if", NO, TRUE), NONE), (("if", SOME, TRUE), NONE), (("if", NO, SOME), NUMBER),
            (("if", SOME, SOME), ("from", NUMBER, NUMBER)),
            (("if", OR, SOME), ("from", ("either", NONE, NONE), NUMBER)),
            (("if", SOME, OR), ("from", NUMBER, ("either", NONE, NONE))),
            (("all", NO), NONE), (("all", ("same", B0, X)), NONE), (("all", SOME), ("from", NUMBER, NUMBER)),
            (("all", ("all", OR)), ("from", NUMBER, ("from", NUMBER, ("either", NONE, NONE)))),
            (("some", NO), NUMBER), (("some", ("same", B0, X)), NUMBER), (("some", SOME), PAIR),
            (("some", OR), ("pair", NUMBER, ("either", NONE, NONE))),
            (("some", ("all", NO)), NUMBER), (("all", ("some", NO)), ("from", NUMBER, NUMBER)),
            (("some", ("if", SOME, NO)), NUMBER),
            (("if", ("if", SOME, NO), SOME), NUMBER), (("all", ("if", SOME, NO)), NONE),
            (("and", ("if", SOME, NO), SOME), NUMBER), (("if", ("and", SOME, OR), ("and", NO, SOME)),
                                                        ("from", ("pair", NUMBER, ("either", NONE, NONE)), NUMBER)),
        ]:
            self.assertEqual(kind_of(saying), kind, saying)

    def test_left_and_right_are_told_apart(self):
        left, right = SOME, OR
        for word, made in [("and", "pair"), ("or", "either"), ("if", "from")]:
            self.assertEqual(kind_of((word, left, right)), (made, NUMBER, ("either", NONE, NONE)))
            self.assertEqual(kind_of((word, right, left)), (made, ("either", NONE, NONE), NUMBER))

    def test_it_does_not_hang_on_terms(self):
        for left, right in [(X, NOUGHT), (("next", ("plus", X, B0)), B0), (ONE, ("times", X, Y))]:
            body = ("or", ("same", left, right), ("some", ("same", right, left)))
            self.assertEqual(kind_of(("all", body)), ("from", NUMBER, ("either", NONE, NUMBER)))

    def test_of_bodies(self):
        self.assertEqual(kind_of(("some", ("same", B0, B1))), NUMBER)

    def test_each_kind_is_a_kind(self):
        for seed in range(300):
            maker = Maker(seed)
            saying = maker.saying(["x", "y"], 4)
            kind = kind_of(saying)
            self.assertIs(is_kind(kind), True)
            self.assertEqual(kind, self.slowly(saying))

    def slowly(self, saying):
        word = saying[0]
        if word in ("same", "no"):
            return NONE
        parts = [self.slowly(part) for part in saying[1:]]
        if word == "some":
            return NUMBER if parts[0] == NONE else ("pair", NUMBER, parts[0])
        if word == "all":
            return NONE if parts[0] == NONE else ("from", NUMBER, parts[0])
        left, right = parts
        if word == "or":
            return "either", left, right
        if word == "and":
            return right if left == NONE else left if right == NONE else ("pair", left, right)
        return NONE if right == NONE else right if left == NONE else ("from", left, right)

    def test_great_ones(self):
        self.assertEqual(kind_of(bush("and", NO, 200)), NONE)
        self.assertEqual(kind_of(bush("or", NO, 200)), bush("either", NONE, 200))
        self.assertEqual(kind_of(tower("some", NO, 60)), slope("pair", NUMBER, 59))
        self.assertEqual(kind_of(tower("all", NO, 60)), NONE)
        self.assertEqual(kind_of(tower("some", NO, 2000))[2][2][1], NUMBER)

    def test_by_name(self):
        self.assertEqual(kind_of(saying=NO), NONE)


if __name__ == "__main__":
    unittest.main()
