import unittest

from prooffruit.errors import GroundError, NoNumber, TooMany
from prooffruit.terms import is_term, is_word, worth
from tests.samples import B0, GREAT, NO, NOUGHT, ODD, ONE, TRUE, X, Y, bush, nested, shared, slope, tower

TERMS = [
    NOUGHT, ONE, ("num", GREAT - 1), X, ("name", "a"), ("name", "abcdefgh"), ("name", "num"), ("next", X),
    ("plus", X, ONE), ("times", NOUGHT, ("next", ("next", Y))), ("plus", ("times", X, Y), ("plus", X, X)),
]


class Words(unittest.TestCase):
    def test_one_to_eight_letters(self):
        for thing in ["a", "z", "az", "x", "abcdefg", "abcdefgh", "zzzzzzzz", "true", "none", "same", "twice"]:
            self.assertIs(is_word(thing), True, thing)

    def test_each_letter_and_its_neighbours(self):
        for code in range(0x250):
            thing = chr(code)
            self.assertIs(is_word(thing), "a" <= thing <= "z", repr(thing))
            self.assertIs(is_word("a" + thing + "b"), "a" <= thing <= "z", repr(thing))

    def test_texts_that_are_none(self):
        for thing in ["", "abcdefghi", "a" * 100000, "A", "aB", "Z", " ", "a ", " a", "a\n", "a1", "1", "a-b", "a.b",
                      "\u00e9", "\u00ab", "\u0430", "\u03b1", "\uff41", "a\u0301", "\U0001d41a", "\x00"]:
            self.assertIs(is_word(thing), False, repr(thing))

    def test_other_things(self):
        for thing in ODD + TERMS + [["a"], ("a",), ("a", "b"), ["a", "b"], [[]], nested("a", 300, list)]:
            self.assertIs(is_word(thing), False, repr(thing)[:80])

    def test_by_name(self):
        self.assertIs(is_word(thing="x"), True)
        self.assertIs(is_word(thing="X"), False)


class Terms(unittest.TestCase):
    def test_terms(self):
        for thing in TERMS:
            self.assertIs(is_term(thing), True, thing)

    def test_other_things(self):
        for thing in ODD + [NO, TRUE, ("all", TRUE), ("and", NO, NO), "x", "num", ["num", 0], ("num",), [("num", 0)]]:
            self.assertIs(is_term(thing), False, thing)

    def test_a_part_too_few_and_too_many(self):
        for thing in TERMS:
            self.assertIs(is_term(thing[:-1]), False, thing)
            for more in (NOUGHT, X, 0, "x", None, ()):
                self.assertIs(is_term(thing + (more,)), False, thing)

    def test_parts_of_the_wrong_kind(self):
        for thing in [*ODD, NO, TRUE, B0, ("and", NO, NO), ["name", "x"], "x", 5]:
            self.assertIs(is_term(("next", thing)), False, thing)
            for word in ("plus", "times"):
                self.assertIs(is_term((word, thing, ONE)), False, thing)
                self.assertIs(is_term((word, X, thing)), False, thing)
            self.assertIs(is_term(("plus", X, ("next", ("times", thing, X)))), False, thing)

    def test_numbers(self):
        for n in (0, 1, 2, 10 ** 59, GREAT - 1):
            self.assertIs(is_term(("num", n)), True, n)
        for n in (-1, -GREAT, GREAT, GREAT + 1, GREAT ** 2):
            self.assertIs(is_term(("num", n)), False, n)
            self.assertIs(is_term(("next", ("num", n))), False, n)

    def test_truths_are_no_numbers(self):
        for thing in (True, False):
            self.assertIs(is_term(("num", thing)), False)
            self.assertIs(is_term(("name", thing)), False)
            self.assertIs(is_term(("plus", X, ("num", thing))), False)

    def test_numbers_that_are_none(self):
        for thing in (None, "", "0", "x", (), (0,), [0], X, ("num", 0)):
            self.assertIs(is_term(("num", thing)), False)

    def test_names(self):
        for thing in ("", "X", "abcdefghi", "\u00e9", "a b", 0, 1, None, (), ("x",), ["x"], X):
            self.assertIs(is_term(("name", thing)), False, thing)

    def test_lists_are_no_tuples(self):
        for thing in TERMS:
            self.assertIs(is_term(list(thing)), False)
            self.assertIs(is_term(("next", list(thing))), False)

    def test_bounds(self):
        for k in (0, 1, 2, -1, True, None, "x"):
            self.assertIs(is_term(("bound", k)), False)
            self.assertIs(is_term(("next", ("bound", k))), False)
            self.assertIs(is_term(("plus", X, ("times", ("bound", k), ONE))), False)

    def test_pieces(self):
        just = ("next", bush("plus", X, 200))
        self.assertIs(is_term(just), True)
        self.assertIs(is_term(("next", just)), False)
        self.assertIs(is_term(bush("times", ONE, 200)), True)
        self.assertIs(is_term(bush("times", ONE, 201)), False)
        self.assertIs(is_term(shared("plus", X, 7)), True)
        self.assertIs(is_term(shared("plus", X, 8)), False)

    def test_within_one_another(self):
        for leaf in (X, NOUGHT):
            self.assertIs(is_term(tower("next", leaf, 60)), True)
            self.assertIs(is_term(tower("next", leaf, 61)), False)
            self.assertIs(is_term(slope("plus", leaf, 60)), True)
            self.assertIs(is_term(slope("plus", leaf, 61)), False)
        self.assertIs(is_term(("plus", X, tower("next", X, 59))), True)
        self.assertIs(is_term(("plus", X, tower("next", X, 60))), False)
        self.assertIs(is_term(("plus", tower("next", X, 60), X)), False)

    def test_far_within_one_another(self):
        for leaf in (X, 0, "x", None, (), []):
            self.assertIs(is_term(nested(leaf, 298, tuple)), False)
            self.assertIs(is_term(nested(leaf, 298, list)), False)
            self.assertIs(is_term(("name", nested(leaf, 298, list))), False)
            self.assertIs(is_term((nested(leaf, 298, tuple), X)), False)
            self.assertIs(is_term((nested(leaf, 298, list), X)), False)
            self.assertIs(is_term(tower("next", leaf, 299)), False)
        self.assertIs(is_word(nested("x", 299, tuple)), False)

    def test_very_broad(self):
        broad = ("next",) + (X,) * 1000000
        self.assertIs(is_term(broad), False)
        self.assertIs(is_term(("plus", broad, broad)), False)
        self.assertIs(is_term([X] * 1000000), False)
        self.assertIs(is_term(("name", "x" * 1000000)), False)
        self.assertIs(is_term(("x" * 1000000, X)), False)
        for within in (40, 200, 299):
            self.assertIs(is_term(shared("plus", X, within)), False)
            self.assertIs(is_term(shared("no", X, within)), False)

    def test_by_name(self):
        self.assertIs(is_term(thing=X), True)
        self.assertIs(is_term(thing=B0), False)


class Worths(unittest.TestCase):
    def refused_name(self, term, numbers):
        with self.assertRaises(NoNumber) as held:
            worth(term, numbers)
        return held.exception.name

    def too_many(self, term, numbers):
        with self.assertRaises(TooMany):
            worth(term, numbers)

    def test_each_word(self):
        numbers = {"x": 3, "y": 5}
        for term, number in [
            (NOUGHT, 0), (("num", 7), 7), (("num", GREAT - 1), GREAT - 1), (X, 3), (("next", X), 4),
            (("next", NOUGHT), 1), (("plus", X, Y), 8), (("times", X, Y), 15), (("plus", X, X), 6),
            (("times", X, NOUGHT), 0), (("plus", ("times", X, X), ("next", Y)), 15),
            (("times", ("plus", X, ONE), ("plus", Y, Y)), 40), (("next", ("next", ("times", Y, Y))), 27),
        ]:
            self.assertEqual(worth(term, numbers), number, term)

    def test_closed_terms_need_no_numbers(self):
        self.assertEqual(worth(("plus", ("num", 2), ("times", ("num", 3), ("num", 4))), {}), 14)

    def test_a_name_without_number(self):
        self.assertEqual(self.refused_name(X, {}), "x")
        self.assertEqual(self.refused_name(X, {"y": 1}), "x")
        self.assertEqual(self.refused_name(("plus", X, Y), {"x": 0}), "y")
        self.assertEqual(self.refused_name(("times", NOUGHT, ("next", Y)), {"x": 1}), "y")

    def test_from_the_left(self):
        self.assertEqual(self.refused_name(("plus", Y, X), {}), "y")
        self.assertEqual(self.refused_name(("plus", X, Y), {}), "x")
        self.assertEqual(self.refused_name(("times", ("plus", ONE, Y), X), {}), "y")
        self.assertEqual(self.refused_name(("times", ("next", ("next", X)), Y), {}), "x")

    def test_numbers_of_nought(self):
        self.assertEqual(worth(("plus", X, Y), {"x": 0, "y": 0}), 0)

    def test_at_the_bound(self):
        last = GREAT - 1
        half = GREAT // 2
        for term, numbers in [
            (("next", X), {"x": last - 1}), (("plus", X, ONE), {"x": last - 1}), (("plus", ONE, X), {"x": last - 1}),
            (("plus", X, Y), {"x": half, "y": half - 1}), (("times", X, ONE), {"x": last}), (X, {"x": last}),
            (("times", ("num", 3), X), {"x": last // 3}), (("plus", X, NOUGHT), {"x": last}), (("num", last), {}),
        ]:
            self.assertEqual(worth(term, numbers), last, term)
        self.assertEqual(worth(("times", NOUGHT, X), {"x": last}), 0)
        for term, numbers in [
            (("next", X), {"x": last}), (("plus", X, ONE), {"x": last}), (("plus", ONE, X), {"x": last}),
            (("plus", X, Y), {"x": half, "y": half}), (("times", X, ("num", 2)), {"x": half}),
            (("times", X, X), {"x": 10 ** 30}), (("times", X, X), {"x": last}), (("next", ("num", last)), {}),
        ]:
            self.too_many(term, numbers)

    def test_numbers_handed_in_too_great(self):
        for number in (GREAT, GREAT + 1, GREAT ** 3):
            for term in (X, ("next", X), ("plus", X, ONE), ("times", X, NOUGHT), ("times", NOUGHT, X)):
                self.too_many(term, {"x": number})
            self.assertEqual(worth(Y, {"x": number, "y": 2}), 2)

    def test_parts_ahead_of_the_whole(self):
        # The whole is below the bound, a part is not.
        self.too_many(("times", NOUGHT, ("next", ("num", GREAT - 1))), {})
        self.too_many(("times", ("next", X), NOUGHT), {"x": GREAT - 1})

    def test_which_refusal_comes_first(self):
        great = ("next", ("num", GREAT - 1))
        for word in ("plus", "times"):
            self.too_many((word, great, Y), {})
            self.assertEqual(self.refused_name((word, Y, great), {}), "y")
            self.too_many((word, X, Y), {"x": GREAT})
            self.assertEqual(self.refused_name((word, Y, X), {"x": GREAT}), "y")
            # The name is a part of the whole that would be too great.
            self.assertEqual(self.refused_name((word, ("num", GREAT - 1), ("plus", Y, great)), {}), "y")
            self.too_many((word, ("next", ("plus", X, X)), ("next", Y)), {"x": GREAT // 2})

    def test_numbers_are_as_they_were(self):
        numbers = {"y": 2, "x": 1}
        worth(("plus", X, ("times", Y, Y)), numbers)
        self.refused_name(("plus", X, ("name", "z")), numbers)
        self.too_many(("times", X, ("next", ("num", GREAT - 1))), numbers)
        self.assertEqual(list(numbers.items()), [("y", 2), ("x", 1)])

    def test_numbers_are_not_kept(self):
        numbers = {"x": 1}
        self.assertEqual(worth(("next", X), numbers), 2)
        numbers["x"] = 8
        self.assertEqual(worth(("next", X), numbers), 9)
        del numbers["x"]
        self.assertEqual(self.refused_name(("next", X), numbers), "x")

    def test_great_terms(self):
        self.assertEqual(worth(tower("next", X, 60), {"x": 4}), 63)
        self.assertEqual(worth(bush("plus", X, 200), {"x": 4}), 800)
        self.assertEqual(worth(tower("next", X, 3000), {"x": 4}), 3003)

    def test_by_name(self):
        self.assertEqual(worth(term=X, numbers={"x": 4}), 4)
        self.assertEqual(worth(numbers={"x": 4}, term=("next", X)), 5)

    def test_refusals_are_ground_errors(self):
        for term in (X, ("next", ("num", GREAT - 1))):
            with self.assertRaises(GroundError):
                worth(term, {})


if __name__ == "__main__":
    unittest.main()
