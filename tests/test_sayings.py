import unittest

from prooffruit.sayings import is_body, is_saying, names_in, put_for, put_in, taken
from tests.samples import (
    B0, B1, B2, GREAT, NO, NOUGHT, ODD, ONE, ONE_X, TRUE, X, Y, bush, nested, shared, slope, tower,
)

SAYINGS = [
    NO, TRUE, ("same", X, Y), ("and", NO, TRUE), ("or", TRUE, NO), ("if", ("same", X, ONE), NO), ("all", NO),
    ("some", TRUE), ("all", ("same", B0, X)), ("some", ("same", ("next", B0), ("plus", X, B0))),
    ("all", ("some", ("same", B1, B0))), ("and", ("all", ("same", B0, B0)), ("some", ("if", NO, ("same", X, B0)))),
    ("all", ("all", ("or", ("some", ("same", ("plus", B2, B0), B1)), ("some", ("same", ("plus", B1, B0), B2))))),
]

# Bodies that are no sayings: bounds in them are out by 0.
LOOSE = [
    ("same", B0, NOUGHT), ("same", X, ("next", B0)), ("and", NO, ("same", B0, B0)), ("all", ("same", B1, B0)),
    ("some", ("same", B0, ("times", B1, X))), ("all", ("some", ("same", B2, B2))),
    ("or", ("same", B0, ONE), ("all", ("if", ("same", B1, B0), ("some", ("same", B2, B1))))),
]

# Neither: bounds in them are out by 1 or more.
LOOSER = [
    ("same", B1, NOUGHT), ("same", B2, X), ("all", ("same", B2, B0)), ("some", ("same", X, ("bound", 3))),
    ("all", ("some", ("same", NOUGHT, ("bound", 3)))), ("and", ("all", ("all", NO)), ("same", B1, X)),
    ("if", ("same", B0, B0), ("all", ("some", ("same", ("next", ("bound", GREAT)), B0)))),
]


def both_told(thing):
    return is_saying(thing), is_body(thing)


class Forms(unittest.TestCase):
    def test_sayings(self):
        for thing in SAYINGS:
            self.assertIs(is_saying(thing), True, thing)

    def test_sayings_are_bodies(self):
        for thing in SAYINGS:
            self.assertIs(is_body(thing), True, thing)

    def test_loose_by_nought(self):
        for thing in LOOSE:
            self.assertEqual(both_told(thing), (False, True), thing)

    def test_loose_by_more(self):
        for thing in LOOSER:
            self.assertEqual(both_told(thing), (False, False), thing)

    def test_bounds_beneath_several(self):
        for binders in range(5):
            for k in range(7):
                for word in ("all", "some"):
                    thing = tower(word, ("same", X, ("bound", k)), binders + 1)
                    self.assertEqual(both_told(thing), (k < binders, k <= binders), thing)
                    thing = ("all", thing)
                    self.assertEqual(both_told(thing), (k < binders + 1, k <= binders + 1), thing)
                    thing = ("or", NO, ("some", ("and", thing, NO)))
                    self.assertEqual(both_told(thing), (k < binders + 2, k <= binders + 2), thing)

    def test_binders_beside_do_not_count(self):
        self.assertEqual(both_told(("and", ("all", ("same", B0, B0)), ("same", B0, X))), (False, True))
        self.assertEqual(both_told(("if", ("same", B0, X), ("some", TRUE))), (False, True))
        self.assertEqual(both_told(("or", ("all", ("all", NO)), ("some", ("same", X, B1)))), (False, True))

    def test_what_stands_beneath_an_all_is_a_body(self):
        for thing in SAYINGS:
            if thing[0] in ("all", "some"):
                self.assertIs(is_body(thing[1]), True, thing)
        for thing in LOOSE:
            self.assertEqual(both_told(("all", thing)), (True, True), thing)

    def test_other_things(self):
        for thing in ODD + [X, NOUGHT, ("next", X), ("plus", X, Y), B0, B1, "no", "same", ["no"], [NO]]:
            self.assertEqual(both_told(thing), (False, False), thing)

    def test_a_part_too_few_and_too_many(self):
        for thing in SAYINGS + LOOSE:
            self.assertEqual(both_told(thing[:-1]), (False, False), thing)
            for more in (NO, TRUE, X, 0, "x", None, ()):
                self.assertEqual(both_told(thing + (more,)), (False, False), thing)

    def test_parts_of_the_wrong_kind(self):
        for thing in [*ODD, X, ("num", 0), ("next", X), B0, "no", 7]:
            for made in [("and", thing, NO), ("and", NO, thing), ("or", thing, NO), ("or", NO, thing),
                         ("if", thing, NO), ("if", NO, thing), ("all", thing), ("some", thing),
                         ("all", ("some", ("and", NO, ("if", thing, NO))))]:
                self.assertEqual(both_told(made), (False, False), made)
        for thing in [*ODD, NO, TRUE, ("all", NO), ["num", 0], ("num", -1), ("num", GREAT), ("num", True), "x", 0]:
            for made in [("same", thing, X), ("same", X, thing), ("same", ("next", thing), X),
                         ("all", ("same", X, ("plus", ("times", B0, thing), X)))]:
                self.assertEqual(both_told(made), (False, False), made)

    def test_numbers_at_the_edge(self):
        for n, told in [(-1, False), (0, True), (GREAT - 1, True), (GREAT, False), (True, False), (False, False)]:
            self.assertEqual(both_told(("same", X, ("num", n))), (told, told), n)

    def test_bounds_that_are_none(self):
        for k in (True, False, -1, None, "", "x", (), (0,), [0], B0):
            for thing in [("same", X, ("bound", k)), ("all", ("same", ("bound", k), X)),
                          ("all", ("some", ("same", X, ("next", ("bound", k)))))]:
                self.assertEqual(both_told(thing), (False, False), thing)

    def test_names(self):
        for thing in ("", "X", "abcdefghi", "\u00e9", 0, True, None, ("x",), ["x"]):
            self.assertEqual(both_told(("same", X, ("name", thing))), (False, False), thing)

    def test_lists_are_no_tuples(self):
        for thing in SAYINGS:
            self.assertEqual(both_told(list(thing)), (False, False), thing)
            self.assertEqual(both_told(("all", list(thing))), (False, False), thing)
        self.assertEqual(both_told(("same", X, ["name", "x"])), (False, False))

    def test_by_name(self):
        self.assertIs(is_saying(thing=NO), True)
        self.assertIs(is_body(thing=("same", B0, X)), True)


class Sizes(unittest.TestCase):
    def test_pieces_of_sayings(self):
        just = ("some", bush("and", NO, 200))
        self.assertEqual(both_told(just), (True, True))
        self.assertEqual(both_told(("all", just)), (False, False))
        self.assertEqual(both_told(bush("or", NO, 201)), (False, False))

    def test_terms_in_equations_count(self):
        # One for the equation, one for next, 199 and 199 for the terms.
        half = bush("plus", X, 100)
        just = ("same", half, ("next", half))
        self.assertEqual(both_told(just), (True, True))
        self.assertEqual(both_told(("same", ("next", half), ("next", half))), (False, False))
        self.assertEqual(both_told(("same", half, ("next", ("next", half)))), (False, False))
        # 399 for a hundred equations of three pieces and what joins them.
        joined = bush("if", TRUE, 100)
        self.assertEqual(both_told(("all", joined)), (True, True))
        self.assertEqual(both_told(("and", joined, NO)), (False, False))

    def test_pieces_of_bodies(self):
        half = bush("times", B0, 100)
        just = ("same", half, ("next", half))
        self.assertEqual(both_told(just), (False, True))
        self.assertEqual(both_told(("all", just)), (False, False))
        self.assertEqual(both_told(("same", ("next", half), ("next", half))), (False, False))
        less = ("same", half, half)
        self.assertEqual(both_told(("all", less)), (True, True))
        self.assertEqual(both_told(("all", ("all", less))), (False, False))

    def test_within_one_another(self):
        for word in ("all", "some"):
            self.assertEqual(both_told(tower(word, NO, 60)), (True, True))
            self.assertEqual(both_told(tower(word, NO, 61)), (False, False))
        for word in ("and", "or", "if"):
            self.assertEqual(both_told(slope(word, NO, 60)), (True, True))
            self.assertEqual(both_told(slope(word, NO, 61)), (False, False))

    def test_terms_in_equations_count_within_one_another(self):
        self.assertEqual(both_told(("same", X, tower("next", X, 59))), (True, True))
        self.assertEqual(both_told(("same", X, tower("next", X, 60))), (False, False))
        self.assertEqual(both_told(("same", tower("next", X, 60), X)), (False, False))
        self.assertEqual(both_told(tower("all", ("same", B0, B1), 59)), (True, True))
        self.assertEqual(both_told(tower("all", ("same", B0, B1), 60)), (False, False))
        self.assertEqual(both_told(tower("all", ("same", X, tower("next", X, 29)), 31)), (True, True))
        self.assertEqual(both_told(tower("all", ("same", X, tower("next", X, 29)), 32)), (False, False))

    def test_bodies_within_one_another(self):
        self.assertEqual(both_told(("same", X, tower("next", B0, 59))), (False, True))
        self.assertEqual(both_told(("same", X, tower("next", B0, 60))), (False, False))
        self.assertEqual(both_told(tower("some", ("same", B0, ("bound", 58)), 59)), (False, True))
        self.assertEqual(both_told(tower("some", ("same", B0, ("bound", 59)), 59)), (False, False))
        self.assertEqual(both_told(tower("some", ("same", B0, ("bound", 58)), 60)), (False, False))

    def test_far_within_one_another(self):
        for leaf in (NO, X, 0, "x", None, (), []):
            for thing in [nested(leaf, 298, tuple), nested(leaf, 298, list), (nested(leaf, 297, list), NO),
                          ("all", nested(leaf, 297, tuple)), tower("all", leaf, 299), tower("next", leaf, 299),
                          ("same", X, ("num", nested(leaf, 290, list))), (nested(leaf, 297, tuple), NO, NO)]:
                self.assertEqual(both_told(thing), (False, False))

    def test_very_broad(self):
        broad = ("and",) + (NO,) * 1000000
        for thing in [broad, ("all", broad), ("and", broad, broad), [NO] * 1000000, ("no",) * 1000000,
                      ("same", X, ("name", "x" * 1000000)), ("x" * 1000000,), ("same", X, ("num", 10 ** 100000))]:
            self.assertEqual(both_told(thing), (False, False))
        for within in (8, 40, 200, 298):
            self.assertEqual(both_told(shared("and", NO, within)), (False, False))
            self.assertEqual(both_told(("same", X, shared("plus", B0, within))), (False, False))


class Names(unittest.TestCase):
    def test_of_terms(self):
        for term, names in [
            (NOUGHT, []), (X, ["x"]), (B0, []), (("next", Y), ["y"]), (("plus", Y, X), ["x", "y"]),
            (("times", ("plus", X, Y), ("next", X)), ["x", "y"]), (("plus", ("num", 7), ("next", NOUGHT)), []),
        ]:
            self.assertEqual(names_in(term), names, term)

    def test_of_sayings_and_bodies(self):
        for thing, names in [
            (NO, []), (TRUE, []), (("same", Y, X), ["x", "y"]), (("all", ("same", B0, ("next", Y))), ["y"]),
            (("same", B0, X), ["x"]),
            (("and", ("same", X, Y), ("if", ("same", ("name", "a"), X), NO)), ["a", "x", "y"]),
            (("all", ("some", ("same", B0, B1))), []), (("or", ("same", X, X), ("some", ("same", X, X))), ["x"]),
        ]:
            self.assertEqual(names_in(thing), names, thing)

    def test_rising_as_texts_do(self):
        row = ["b", "zz", "a", "ab", "aa", "z", "abcdefgh", "ba", "abc"]
        thing = NO
        for name in row + row:
            thing = ("and", ("same", ("name", name), ("name", name)), thing)
        self.assertEqual(names_in(thing), ["a", "aa", "ab", "abc", "abcdefgh", "b", "ba", "z", "zz"])

    def test_words_are_no_names_by_themselves(self):
        self.assertEqual(names_in(("same", ("name", "num"), ("name", "name"))), ["name", "num"])

    def test_a_new_list_each_time(self):
        thing = ("same", Y, X)
        told = names_in(thing)
        told.append("a")
        told.reverse()
        self.assertEqual(names_in(thing), ["x", "y"])
        self.assertIsInstance(names_in(NO), list)
        names_in(NO).append("a")
        self.assertEqual(names_in(NO), [])

    def test_of_great_things(self):
        self.assertEqual(names_in(tower("next", X, 3000)), ["x"])
        self.assertEqual(names_in(tower("all", ("same", X, Y), 3000)), ["x", "y"])

    def test_by_name(self):
        self.assertEqual(names_in(thing=X), ["x"])


class Putting(unittest.TestCase):
    def test_put_in(self):
        t = ("next", Y)
        for body, told in [
            (("same", B0, X), ("same", t, X)),
            (("same", ("plus", B0, ("times", X, B0)), B0), ("same", ("plus", t, ("times", X, t)), t)),
            (("all", ("same", B0, B1)), ("all", ("same", B0, t))),
            (("some", ("all", ("same", ("plus", B0, B1), B2))), ("some", ("all", ("same", ("plus", B0, B1), t)))),
            (("and", ("same", B0, X), ("all", ("same", B0, B0))), ("and", ("same", t, X), ("all", ("same", B0, B0)))),
            (("or", ("some", ("same", B1, B0)), ("same", B0, B0)), ("or", ("some", ("same", t, B0)), ("same", t, t))),
            (("if", NO, ("same", NOUGHT, B0)), ("if", NO, ("same", NOUGHT, t))),
        ]:
            self.assertEqual(put_in(body, t), told, body)

    def test_put_into_each_binder_depth(self):
        for binders in range(6):
            body = tower("all", ("same", ("bound", binders), ("num", binders)), binders + 1)
            told = tower("all", ("same", X, ("num", binders)), binders + 1)
            self.assertEqual(put_in(body, X), told)
            for k in range(binders):
                inner = tower("some", ("same", ("bound", k), X), binders + 1)
                self.assertEqual(put_in(inner, Y), inner)

    def test_put_into_a_body_without_loose_bounds(self):
        for saying in SAYINGS:
            self.assertEqual(put_in(saying, ("plus", X, ONE)), saying)

    def test_put_in_tells_sayings(self):
        for body in LOOSE:
            for term in (X, NOUGHT, ("plus", X, ("next", Y))):
                self.assertIs(is_saying(put_in(body, term)), True, body)

    def test_taken(self):
        for saying, told in [
            (("same", X, Y), ("same", B0, Y)),
            (("same", X, ("plus", X, ("next", X))), ("same", B0, ("plus", B0, ("next", B0)))),
            (("all", ("same", B0, X)), ("all", ("same", B0, B1))),
            (("some", ("all", ("same", ("plus", X, B0), B1))), ("some", ("all", ("same", ("plus", B2, B0), B1)))),
            (("and", ("all", ("same", X, X)), ("same", X, Y)), ("and", ("all", ("same", B1, B1)), ("same", B0, Y))),
            (("if", ("same", X, X), ("or", NO, ("same", Y, X))), ("if", ("same", B0, B0), ("or", NO, ("same", Y, B0)))),
        ]:
            self.assertEqual(taken(saying, "x"), told, saying)

    def test_taken_where_it_stands_nowhere(self):
        for saying in SAYINGS:
            self.assertEqual(taken(saying, "z"), saying)
        self.assertEqual(taken(("same", ("name", "xx"), Y), "x"), ("same", ("name", "xx"), Y))
        self.assertEqual(taken(("all", ONE_X), "y"), ("all", ONE_X))

    def test_taken_and_put_in_again(self):
        for saying in SAYINGS:
            for name in ("x", "y", "z"):
                body = taken(saying, name)
                self.assertIs(is_body(body), True)
                self.assertNotIn(name, names_in(body))
                self.assertEqual(put_in(body, ("name", name)), saying)

    def test_taken_makes_the_part_of_an_all(self):
        for saying in SAYINGS:
            self.assertIs(is_saying(("all", taken(saying, "x"))), True, saying)

    def test_put_for(self):
        t = ("times", Y, ONE)
        for saying, told in [
            (("same", X, Y), ("same", t, Y)),
            (("all", ("same", B0, ("next", X))), ("all", ("same", B0, ("next", t)))),
            (("and", ("some", ("same", X, B0)), ("same", Y, X)), ("and", ("some", ("same", t, B0)), ("same", Y, t))),
            (("if", NO, ("or", ("same", X, X), TRUE)), ("if", NO, ("or", ("same", t, t), TRUE))),
        ]:
            self.assertEqual(put_for(saying, "x", t), told, saying)

    def test_put_for_a_name_that_stands_in_the_term(self):
        t = ("plus", X, ("next", X))
        self.assertEqual(put_for(("same", X, Y), "x", t), ("same", t, Y))
        self.assertEqual(put_for(("all", ("same", ("next", X), B0)), "x", t), ("all", ("same", ("next", t), B0)))
        self.assertEqual(put_for(("same", X, Y), "x", X), ("same", X, Y))
        self.assertEqual(put_for(("same", X, Y), "x", Y), ("same", Y, Y))

    def test_put_for_a_name_that_stands_nowhere(self):
        for saying in SAYINGS:
            self.assertEqual(put_for(saying, "z", ONE), saying)

    def test_great_things(self):
        body = bush("and", ("same", B0, B0), 100)
        term = bush("plus", X, 200)
        self.assertEqual(put_in(body, term), bush("and", ("same", term, term), 100))
        self.assertEqual(put_in(tower("all", ("same", ("bound", 58), X), 59), Y), tower("all", ("same", Y, X), 59))
        self.assertEqual(names_in(put_for(tower("all", ("same", X, X), 3000), "x", Y)), ["y"])
        self.assertEqual(names_in(put_in(taken(tower("some", ("same", X, X), 3000), "x"), Y)), ["y"])

    def test_by_name(self):
        self.assertEqual(put_in(term=X, body=("same", B0, Y)), ("same", X, Y))
        self.assertEqual(taken(name="x", saying=("same", X, Y)), ("same", B0, Y))
        self.assertEqual(put_for(term=ONE, name="x", saying=("same", X, Y)), ("same", ONE, Y))

    def test_what_is_told_is_made_of_tuples(self):
        for told in (put_in(LOOSE[-1], X), taken(SAYINGS[-1], "x"), put_for(SAYINGS[-1], "x", ONE), put_in(NO, X)):
            todo = [told]
            while todo:
                piece = todo.pop()
                self.assertIsInstance(piece, (tuple, str, int))
                todo.extend(piece if isinstance(piece, tuple) else ())


class HandedIn(unittest.TestCase):
    def test_things_are_as_they_were(self):
        inner = ["num", [0, ("name", "x")]]
        thing = ["and", [["no"], ("same", inner, inner)], None]
        before = repr(thing)
        for asked in (thing, ("all", thing), ("same", ("next", inner), ("num", inner))):
            self.assertEqual(both_told(asked), (False, False))
        self.assertEqual(repr(thing), before)

    def test_what_is_done_behind_the_call_changes_nothing(self):
        thing = ["no"]
        self.assertIs(is_saying(("all", thing)), False)
        thing.clear()
        self.assertIs(is_saying(("all", thing)), False)
        self.assertIs(is_saying(("all", ("no",))), True)


if __name__ == "__main__":
    unittest.main()
