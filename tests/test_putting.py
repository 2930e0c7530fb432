import unittest

from prooffruit.errors import GroundError, NoGround
from prooffruit.grounds import parts_of
from prooffruit.judge import grounded
from prooffruit.putting import alike, named, open_names, supplied
from prooffruit.sayings import names_in, put_for
from prooffruit.terms import is_word
from prooffruit.wording import word_at
from tests.making import LABELS, NAMES, Maker, swapped
from tests.oracle import nameless
from tests.samples import B0, B1, NO, NOUGHT, ONE, TRUE, X, Y, bush

Z = ("name", "z")
A = ("same", X, ONE)
B = ("same", Y, NOUGHT)
BODY = ("same", B0, Y)


def given(label, saying):
    return ("given", label, saying)


def equal(*names):
    """A ground in which these names stand."""
    ground = ("equal", ("name", names[0]))
    for name in names[1:]:
        ground = ("both", ground, ("equal", ("name", name)))
    return ground


class OpenNames(unittest.TestCase):
    def test_every_word(self):
        x, y, z = equal("x"), equal("y"), equal("z")
        for ground, names in [
            (given("u", ("and", A, B)), "xy"), (given("u", ("all", BODY)), "y"), (given("u", NO), ""),
            (("lets", "u", A, y), "xy"), (("uses", ("lets", "u", TRUE, x), ("equal", NOUGHT)), "x"),
            (("both", y, x), "xy"), (("first", ("both", y, x)), "xy"), (("second", ("both", y, x)), "xy"),
            (("this", x, B), "xy"), (("that", B, x), "xy"),
            (("cases", ("this", x, B), "u", z, "v", z), "xyz"),
            (("cases", ("this", x, NO), "u", ("absurd", given("n", NO), B), "v", ("absurd", given("m", NO), B)), "xy"),
            (("for", "x", equal("x", "y")), "y"), (("for", "z", equal("x", "y")), "xy"),
            (("at", ("for", "x", x), Y), "y"), (("such", BODY, X, given("u", ("same", X, Y))), "xy"),
            (("such", TRUE, X, ("equal", NOUGHT)), "x"), (("such", ("same", B0, B0), NOUGHT, ("equal", NOUGHT)), ""),
            (("open", given("p", ("some", BODY)), "x", "u", equal("z", "z")), "yz"),
            (("open", ("such", TRUE, X, ("equal", NOUGHT)), "x", "u", y), "xy"),
            (("open", given("p", ("some", BODY)), "x", "u", ("lets", "v", NO, ("first", ("both", z, x)))), "yz"),
            (("absurd", given("n", NO), A), "x"), (("equal", ("plus", Y, ("next", X))), "xy"),
            (("put", ("equal", X), BODY, given("u", ("same", X, Y))), "xy"), (("reckoned", ONE, ONE), ""),
            (("sums", 0, X, Z), "xz"), (("sums", 1, X, Y), "xy"), (("sums", 2, NOUGHT, X), "x"),
            (("sums", 3, Y, X), "xy"),
            (("down", given("u", ("same", ("next", X), ("next", Y)))), "xy"),
            (("never", given("u", ("same", ("next", X), NOUGHT))), "x"),
            (("climb", B, given("p", B), "x", "u", ("first", ("both", given("u", B), x)), Z), "yz"),
            (("climb", B, ("first", ("both", given("p", B), x)), "x", "u", given("u", B), Z), "xyz"),
            (("climb", B, given("p", B), "x", "u", given("u", B), X), "xy"),
            (("climb", ("same", B0, B0), ("equal", NOUGHT), "x", "u", ("equal", ("next", X)), NOUGHT), ""),
            (("twice", given("u", ("if", ("if", A, NO), NO))), "x"),
        ]:
            self.assertEqual(open_names(ground), list(names), ground)

    def test_where_nothing_of_it_is_seen_in_the_saying(self):
        ground = ("second", ("both", equal("x"), ("equal", NOUGHT)))
        self.assertEqual((grounded(ground)[0], open_names(ground)), (TRUE, ["x"]))
        self.assertEqual(open_names(("for", "y", ground)), ["x"])
        self.assertEqual(open_names(("for", "x", ground)), [])

    def test_closed_again_within_one_another_and_beside(self):
        self.assertEqual(open_names(("for", "x", ("for", "x", equal("x")))), [])
        self.assertEqual(open_names(("both", ("for", "x", equal("x")), equal("x"))), ["x"])
        self.assertEqual(open_names(("for", "x", ("both", ("for", "y", equal("x", "y")), equal("y")))), ["y"])

    def test_closed_names_and_labels_are_no_names_that_stand(self):
        self.assertEqual(open_names(("for", "x", ("equal", NOUGHT))), [])
        self.assertEqual(open_names(("lets", "x", NO, given("x", NO))), [])

    def test_rising_and_new_each_time(self):
        ground = equal("b", "zz", "a", "ab", "aa", "b", "abcdefgh")
        told = open_names(ground)
        self.assertEqual(told, ["a", "aa", "ab", "abcdefgh", "b", "zz"])
        told.clear()
        self.assertEqual(open_names(ground=ground), ["a", "aa", "ab", "abcdefgh", "b", "zz"])


SOME = ("some", ("same", B0, Y))


class Alike(unittest.TestCase):
    def check(self, one, other, due):
        for ground in (one, other):
            grounded(ground)
        self.assertIs(alike(one, other), due, (one, other))
        self.assertIs(alike(other, one), due, (one, other))
        self.assertEqual(nameless(one) == nameless(other), due)

    def test_closed_names(self):
        for x in ("x", "z", "abcdefgh"):
            self.check(("for", "x", equal("x", "y")), ("for", x, equal(x, "y")), True)
            some = given("p", SOME)
            at_x = ("such", ("same", B0, Y), X, given("u", ("same", X, Y)))
            other = ("such", ("same", B0, Y), ("name", x), given("u", ("same", ("name", x), Y)))
            self.check(("open", some, "x", "u", at_x), ("open", some, x, "u", other), True)
            start, turn = ("equal", NOUGHT), ("equal", ("next", ("name", x)))
            self.check(("climb", ("same", B0, B0), start, "x", "u", ("equal", ("next", X)), Y),
                       ("climb", ("same", B0, B0), start, x, "u", turn, Y), True)

    def test_closed_labels(self):
        for u in ("u", "w", "x"):
            self.check(("lets", "u", A, given("u", A)), ("lets", u, A, given(u, A)), True)
            either = given("p", ("or", A, A))
            self.check(("cases", either, "u", given("u", A), "v", given("v", A)),
                       ("cases", either, u, given(u, A), "v", given("v", A)), True)
            self.check(("cases", either, "u", given("u", A), "v", given("v", A)),
                       ("cases", either, "v", given("v", A), u, given(u, A)), True)
            some = given("p", SOME)
            at_x, other = (("such", ("same", B0, Y), X, given(label, ("same", X, Y))) for label in ("u", u))
            self.check(("open", some, "x", "u", at_x), ("open", some, "x", u, other), True)
            self.check(("climb", B, given("p", B), "x", "u", given("u", B), Y),
                       ("climb", B, given("p", B), "x", u, given(u, B), Y), True)

    def test_crosswise(self):
        one = ("for", "x", ("for", "y", equal("x", "y")))
        self.check(one, ("for", "y", ("for", "x", equal("y", "x"))), True)
        self.check(one, ("for", "y", ("for", "x", equal("x", "y"))), False)
        self.check(one, ("for", "x", ("for", "y", equal("y", "x"))), False)
        one = ("lets", "u", A, ("lets", "v", A, ("both", given("u", A), given("v", A))))
        self.check(one, ("lets", "v", A, ("lets", "u", A, ("both", given("v", A), given("u", A)))), True)
        self.check(one, ("lets", "v", A, ("lets", "u", A, ("both", given("u", A), given("v", A)))), False)
        self.check(one, ("lets", "v", A, ("lets", "u", A, ("both", given("v", A), given("v", A)))), False)

    def test_open_ones(self):
        self.check(equal("x"), equal("x"), True)
        self.check(equal("x"), equal("y"), False)
        self.check(("for", "x", equal("x", "y")), ("for", "x", equal("x", "z")), False)
        self.check(given("u", A), given("v", A), False)
        self.check(("lets", "w", A, given("u", A)), ("lets", "w", A, given("v", A)), False)
        self.check(("lets", "w", A, given("u", A)), ("lets", "z", A, given("u", A)), True)

    def test_open_against_closed(self):
        self.check(("for", "x", equal("x")), ("for", "y", equal("x")), False)
        self.check(("for", "x", equal("y")), ("for", "y", equal("y")), False)
        self.check(("for", "x", equal("y")), ("for", "z", equal("y")), True)
        self.check(("lets", "u", A, given("u", A)), ("lets", "v", A, given("u", A)), False)
        self.check(("climb", B, given("p", B), "x", "p", given("p", B), X),
                   ("climb", B, given("p", B), "x", "q", given("p", B), X), False)

    def test_a_name_closed_where_it_does_not_stand(self):
        for word in ("x", "z", "q"):
            self.check(("for", "q", ("equal", Y)), ("for", word, ("equal", Y)), True)
            self.check(("climb", B, given("p", B), "q", "q", given("p", B), X),
                       ("climb", B, given("p", B), word, word, given("p", B), X), True)

    def test_closed_twice_within_one_another(self):
        one = ("for", "x", ("both", equal("x"), ("for", "x", equal("x"))))
        self.check(one, ("for", "x", ("both", equal("x"), ("for", "y", equal("y")))), True)
        self.check(one, ("for", "y", ("both", equal("y"), ("for", "x", equal("x")))), True)
        self.check(one, ("for", "y", ("both", equal("y"), ("for", "x", equal("y")))), False)
        one = ("lets", "u", A, ("both", given("u", A), ("lets", "u", A, given("u", A))))
        self.check(one, ("lets", "u", A, ("both", given("u", A), ("lets", "v", A, given("v", A)))), True)
        self.check(one, ("lets", "u", A, ("both", given("u", A), ("lets", "v", A, given("u", A)))), False)

    def test_where_a_word_is_closed_and_where_not(self):
        # The x of a climb is closed in its second ground alone, that of open too.
        start, turn = ("equal", NOUGHT), ("equal", ("next", X))
        self.check(("climb", ("same", B0, B0), start, "x", "u", turn, X),
                   ("climb", ("same", B0, B0), start, "y", "u", ("equal", ("next", Y)), Y), False)
        self.check(("climb", ("same", B0, B0), start, "x", "u", turn, X),
                   ("climb", ("same", B0, B0), start, "y", "u", ("equal", ("next", Y)), X), True)
        some, other = (("such", ("same", B0, B0), ("name", x), equal(x)) for x in ("x", "y"))
        self.check(("open", some, "x", "u", equal("z")), ("open", other, "y", "u", equal("z")), False)
        self.check(("open", some, "x", "u", equal("z")), ("open", some, "y", "u", equal("z")), True)

    def test_closed_in_what_is_written_beside_the_grounds(self):
        for one, other in [(("lets", "u", ("same", X, X), equal("y")), ("lets", "u", ("same", Z, Z), equal("y"))),
                           (("this", equal("y"), A), ("this", equal("y"), put_for(A, "x", Z))),
                           (("absurd", given("n", NO), A), ("absurd", given("n", NO), put_for(A, "x", Z))),
                           (("sums", 1, X, Y), ("sums", 1, Z, Y)), (("sums", 3, Y, X), ("sums", 3, Y, Z)),
                           (("sums", 0, Y, X), ("sums", 0, Y, Z)), (("sums", 2, Y, X), ("sums", 2, Y, Z)),
                           (("at", given("p", ("all", B)), X), ("at", given("p", ("all", B)), Z)),
                           (("put", ("equal", X), TRUE, ("equal", NOUGHT)),
                            ("put", ("equal", Z), TRUE, ("equal", NOUGHT)))]:
            self.check(("for", "x", one), ("for", "z", other), True)
            self.check(("for", "x", one), ("for", "x", other), False)
            self.check(one, other, False)

    def test_unlike_words_and_parts(self):
        x = equal("x")
        rows = [x, ("both", x, x), ("first", ("both", x, x)), ("second", ("both", x, x)), ("this", x, A),
                ("this", x, B), ("that", A, x), ("sums", 0, X, Y), ("sums", 0, X, X), ("sums", 2, X, Y),
                ("sums", 2, X, X), ("sums", 1, X, Y), ("sums", 3, X, Y),
                ("sums", 1, Y, X), ("reckoned", ONE, ONE),
                ("reckoned", NOUGHT, NOUGHT), ("equal", ("next", X)), ("equal", ("plus", X, X)),
                ("equal", ("times", X, X)), ("for", "x", x), ("for", "x", ("for", "x", x)), given("u", A),
                given("u", B), given("u", ("and", A, A)), given("u", ("or", A, A)),
                given("u", ("all", ("all", ("same", B0, B0)))), given("u", ("all", ("all", ("same", B0, B1)))),
                ("lets", "u", A, x), ("lets", "u", B, x), ("such", ("same", B0, X), X, x),
                ("such", ("same", X, B0), X, x), ("such", ("same", B0, B0), X, x), ("put", x, ("same", X, B0), x),
                ("put", x, ("same", X, X), x)]
        for at, one in enumerate(rows):
            for to, other in enumerate(rows):
                self.check(one, other, at == to)

    def test_beside_the_oracle(self):
        told = []
        pool = [equal("x")]
        for seed in range(120):
            maker = Maker(seed, plain=seed % 3 > 0)
            ground = maker.ground()
            for _ in range(4):
                other = swapped(maker.chance, ground, maker.chance.choice(pool), parts_of)
                try:
                    grounded(other)
                except NoGround:
                    continue
                self.check(ground, other, nameless(ground) == nameless(other))
                told.append(alike(ground, other))
            pool.append(ground)
        self.assertGreater(told.count(True), 50)
        self.assertGreater(told.count(False), 50)

    def test_great_ones(self):
        one, other = bush("both", equal("x"), 5000), bush("both", equal("y"), 5000)
        self.assertIs(alike(("for", "x", one), ("for", "y", other)), True)
        self.assertIs(alike(("for", "x", one), ("for", "y", ("both", other[1], one[2]))), False)

    def test_by_name(self):
        self.assertIs(alike(other=equal("x"), one=equal("x")), True)


class Words(unittest.TestCase):
    def test_each_another_one(self):
        words = [word_at(number) for number in range(20000)]
        self.assertEqual(words[:26], list("abcdefghijklmnopqrstuvwxyz"))
        self.assertEqual(words[26:29] + words[701:704], ["aa", "ab", "ac", "zz", "aaa", "aab"])
        self.assertEqual(len(set(words)), 20000)
        self.assertTrue(all(is_word(word) for word in words))


class Putting(unittest.TestCase):
    def refused(self, told, *things):
        with self.assertRaises(NoGround) as held:
            told(*things)
        return held.exception.place, held.exception.word


class Named(Putting):
    def check(self, ground, name, term):
        told = named(ground, name, term)
        saying, givens = grounded(ground)
        due = tuple((label, put_for(needs, name, term)) for label, needs in givens)
        self.assertEqual(grounded(told), (put_for(saying, name, term), due), (ground, name, term))
        self.assertEqual(nameless(told), nameless(ground, put={("name", name): term}), (ground, name, term))
        return told

    def test_wherever_it_is_not_closed(self):
        t = ("next", Y)
        self.assertEqual(self.check(equal("x", "z"), "x", t), ("both", ("equal", t), equal("z")))
        ground = ("both", ("for", "x", equal("x")), equal("x"))
        self.assertEqual(self.check(ground, "x", t), ("both", ("for", "x", equal("x")), ("equal", t)))
        self.assertEqual(self.check(given("u", ("all", ("same", X, B0))), "x", t), given("u", ("all", ("same", t, B0))))
        self.assertEqual(self.check(("such", ("same", B0, X), X, equal("x")), "x", t),
                         ("such", ("same", B0, t), t, ("equal", t)))

    def test_in_every_word(self):
        x = equal("x")
        for ground in [given("u", A), ("lets", "u", A, x), ("lets", "u", A, given("u", A)),
                       ("uses", given("i", ("if", A, A)), given("u", A)), ("both", x, x), ("first", ("both", x, x)),
                       ("second", ("both", x, x)), ("this", x, A), ("that", A, x),
                       ("cases", given("p", ("or", A, A)), "u", given("u", A), "v", given("v", A)),
                       ("for", "z", equal("x", "z")), ("at", given("p", ("all", ("same", X, B0))), X),
                       ("such", ("same", B0, X), X, x),
                       ("open", given("p", ("some", ("same", X, B0))), "z", "u",
                        ("such", ("same", X, B0), Z, given("u", ("same", X, Z)))), ("absurd", given("n", NO), A),
                        ("put", x, ("same", B0, X), x), ("sums", 0, X, ONE), ("sums", 0, ONE, X),
                       ("sums", 1, X, X), ("sums", 2, X, X),
                       ("sums", 3, X, X), ("down", given("u", ("same", ("next", X), ("next", Y)))),
                       ("never", given("u", ("same", ("next", X), NOUGHT))),
                       ("climb", A, given("p", A), "z", "u", given("u", A), X),
                       ("climb", ("same", ("plus", X, B0), ("plus", X, B0)), ("equal", ("plus", X, NOUGHT)), "z", "u",
                        ("equal", ("plus", X, ("next", Z))), X),
                       ("twice", given("u", ("if", ("if", A, NO), NO)))]:
            for term in (NOUGHT, ("next", X), Y, Z, ("plus", Z, ("times", X, Y))):
                told = self.check(ground, "x", term)
                self.assertNotEqual(told, ground)
                self.assertEqual(open_names(told),
                                 sorted({*open_names(ground), *names_in(term)} - ({"x"} - set(names_in(term)))))

    def test_closed_names_that_stand_in_the_term(self):
        for ground in [("for", "z", equal("x", "z")), ("for", "z", ("for", "y", equal("x", "y", "z"))),
                       ("for", "z", ("both", ("for", "z", equal("z", "x")), equal("z", "x"))),
                       ("open", given("p", ("some", ("same", B0, X))), "z", "u",
                        ("such", ("same", B0, X), Z, given("u", ("same", Z, X)))),
                       # x stands in the saying of the first ground alone.
                       ("open", given("p", ("some", ("same", B0, X))), "z", "u", ("equal", NOUGHT)),
                       ("open", ("such", ("same", B0, B0), X, equal("x")), "z", "u", ("equal", NOUGHT)),
                       ("climb", ("same", ("plus", X, B0), ("plus", X, B0)), ("equal", ("plus", X, NOUGHT)), "z", "u",
                        ("equal", ("plus", X, ("next", Z))), Z),
                       ("climb", A, given("p", A), "z", "u", given("u", A), NOUGHT),
                       ("climb", A, given("p", A), "z", "u", given("p", A), X), ("for", "z", given("u", A)),
                       ("for", "z", ("second", ("both", given("u", A), equal("z")))),
                       ("climb", A, ("first", ("both", given("p", A), equal("z"))), "z", "u", given("u", A), Z)]:
            for term in (Z, ("next", Z), ("plus", Z, Y), ("plus", X, Z)):
                self.check(ground, "x", term)

    def test_a_name_that_stands_in_its_own_term(self):
        for ground in [equal("x"), ("both", ("for", "x", equal("x")), equal("x")),
                       ("for", "y", ("both", equal("x", "y"), ("for", "x", equal("x", "y"))))]:
            for term in (X, ("next", X), ("plus", X, Y)):
                self.check(ground, "x", term)
        self.assertIs(alike(named(equal("x"), "x", X), equal("x")), True)

    def test_names_that_are_hard_to_find(self):
        # All the words of one letter stand somewhere, and names of eight letters all around.
        letters = list("abcdefghijklmnopqrstuvwxyz")
        longest = [letter * 8 for letter in letters]
        ground = equal(*longest, *letters)
        for name in [*longest[:5], "zzzzzzzz", "azzzzzzz"]:
            ground = ("for", name, ground)
        told = self.check(ground, "x", ("plus", ("name", "aaaaaaaa"), ("plus", ("name", "zzzzzzzz"),
            ("plus", ("name", "azzzzzzz"), ("name", "bbbbbbbb")))))
        grounded(told)
        closed = []
        while told[0] == "for":
            closed.append(told[1])
            told = told[2]
        self.assertEqual(len(set(closed)), len(closed))
        for name in ("aaaaaaaa", "bbbbbbbb", "zzzzzzzz", "azzzzzzz", *letters):
            self.assertNotIn(name, closed)

    def test_very_many_closed_names(self):
        words = [one + other for one in "abcdefg" for other in "abc"]
        ground = equal("x", *words)
        for word in words:
            ground = ("for", word, ground)
        term = ("name", words[0])
        for word in words[1:]:
            term = ("plus", term, ("name", word))
        told = named(ground, "x", term)
        self.assertEqual(nameless(told), nameless(ground, put={("name", "x"): term}))

    def test_a_name_that_is_not_open(self):
        for ground in [equal("y"), ("for", "x", equal("x", "y")), ("equal", NOUGHT), ("lets", "x", NO, given("x", NO)),
                       ("for", "z", equal("z", "y"))]:
            self.assertEqual(named(ground, "x", ("plus", Y, Z)), ground)

    def test_refused(self):
        for ground, place, word in [(None, (), "form"), (("first", equal("x")), (), "saying"),
                                    (("both", equal("x"), ("reckoned", ONE, NOUGHT)), (1,), "number"),
                                    (("for", "x", given("u", A)), (), "name"),
                                    (("both", given("u", A), given("u", B)), (), "given"),
                                    (("equal", bush("plus", X, 200)), (), "size"),
                                    (bush("both", equal("x"), 1001), (), "form")]:
            for name in ("x", "q"):
                self.assertEqual(self.refused(named, ground, name, Y), (place, word))

    def test_what_comes_may_be_greater(self):
        term = bush("plus", Y, 150)
        told = named(("equal", X), "x", ("next", term))
        self.assertEqual(told, ("equal", ("next", term)))
        told = named(("equal", ("plus", X, X)), "x", term)
        self.assertEqual(told, ("equal", ("plus", term, term)))

    def test_by_chance(self):
        for seed in range(120):
            maker = Maker(seed, plain=seed % 3 > 0)
            ground = maker.ground()
            for name in [*open_names(ground), maker.chance.choice(NAMES)]:
                term = maker.term(NAMES, 2)
                if name in open_names(ground):
                    self.check(ground, name, term)
                else:
                    self.assertEqual(named(ground, name, term), ground)

    def test_by_name(self):
        self.assertEqual(named(term=Y, ground=equal("x"), name="x"), equal("y"))


class Supplied(Putting):
    def check(self, ground, label, other):
        told = supplied(ground, label, other)
        saying, givens = grounded(ground)
        due = {word: needs for word, needs in givens if word != label}
        due.update(dict(grounded(other)[1]))
        self.assertEqual(grounded(told), (saying, tuple(sorted(due.items()))), (ground, label, other))
        self.assertEqual(nameless(told), nameless(ground, put={("label", label): nameless(other)}),
                         (ground, label, other))
        return told

    def test_wherever_it_is_open(self):
        other = ("second", given("w", ("and", B, A)))
        self.assertEqual(self.check(given("u", A), "u", other), other)
        self.assertEqual(self.check(("both", given("u", A), given("v", B)), "u", other), ("both", other, given("v", B)))
        self.assertEqual(self.check(("both", given("u", A), ("this", given("u", A), NO)), "u", other),
                         ("both", other, ("this", other, NO)))
        ground = ("both", ("lets", "u", A, given("u", A)), given("u", A))
        self.assertEqual(self.check(ground, "u", other), ("both", ("lets", "u", A, given("u", A)), other))
        # Closed for another saying, it is another one.
        ground = ("both", ("lets", "u", B, given("u", B)), given("u", A))
        self.assertEqual(self.check(ground, "u", other), ("both", ("lets", "u", B, given("u", B)), other))

    def test_closed_labels_that_are_open_in_the_second(self):
        other = ("second", ("both", given("w", B), given("v", A)))
        for ground in [("lets", "w", B, given("u", A)), ("lets", "w", A, ("both", given("w", A), given("u", A))),
                       ("lets", "w", NO, ("lets", "v", NO, ("both", given("u", A),
                                                            ("both", given("w", NO), given("v", NO))))),
                       ("cases", given("p", ("or", B, NO)), "w", ("second", ("both", given("w", B), given("u", A))),
                        "v", ("second", ("both", given("v", NO), given("u", A)))),
                       ("open", given("p", ("some", ("same", B0, Y))), "z", "w",
                        ("second", ("both", given("w", ("same", Z, Y)), given("u", A)))),
                       ("climb", A, given("u", A), "z", "w", ("second", ("both", given("w", A), given("u", A))), Y),
                       ("climb", A, given("q", A), "z", "v", ("first", ("both", given("u", A), given("v", A))), Y)]:
            self.check(ground, "u", other)

    def test_closed_names_that_are_open_in_the_second(self):
        first = ("first", ("both", given("w", NO), equal("z", "y")))
        inner = ("put", ("equal", Z), NO, given("w", NO))
        for other in [first, inner, ("first", ("both", given("w", NO), ("equal", Z)))]:
            for ground in [("for", "z", given("u", NO)), ("for", "z", ("both", equal("z"), given("u", NO))),
                           ("for", "y", ("for", "z", ("both", equal("z", "y"), given("u", NO)))),
                           ("open", given("p", ("some", ("same", B0, X))), "z", "v",
                            ("both", given("u", NO), ("such", ("same", B0, X), Z, given("v", ("same", Z, X))))),
                           ("climb", ("or", NO, ("same", B0, B0)), ("this", given("u", NO), ("same", NOUGHT, NOUGHT)),
                            "z", "v", ("this", given("u", NO), ("same", ("next", Z), ("next", Z))), Y)]:
                self.check(ground, "u", other)

    def test_a_name_that_stands_in_the_givens_of_the_second(self):
        # z is closed in the first where it stands nowhere: with the second's given it would stand there.
        other = ("first", ("both", given("m", NO), given("w", ("same", Z, Z))))
        for ground in [("for", "z", given("u", NO)), ("open", given("p", SOME), "z", "v", given("u", NO)),
                       ("climb", NO, given("u", NO), "z", "v", given("u", NO), Y),
                       ("for", "z", ("both", given("u", NO), equal("z")))]:
            self.check(ground, "u", other)

    def test_the_own_label_in_the_second(self):
        self.check(given("u", A), "u", given("u", A))
        self.check(given("u", A), "u", ("first", given("u", ("and", A, B))))
        self.check(("both", given("u", A), ("lets", "u", B, given("u", B))), "u", ("first", given("u", ("and", A, B))))
        self.check(("lets", "v", NO, ("both", given("u", A), given("v", NO))), "u",
                   ("first", ("both", given("v", A), given("u", NO))))

    def test_words_that_are_hard_to_find(self):
        letters = list("abcdefghijklmnopqrstuvwxyz")
        longest = [letter * 8 for letter in letters]
        ground = other = given("zz", NO)
        rows = [given(word, A) for word in longest + letters]
        while len(rows) > 1:
            rows = [("both", rows[k], rows[k + 1]) for k in range(0, len(rows) - 1,
                2)] + rows[len(rows) - len(rows) % 2:]
        ground = ("second", ("both", rows[0], ground))
        for word in longest[:6]:
            other = ("second", ("both", given(word, A), other))
            ground = ("for", word, ("lets", word, A, ("second", ("both", equal(word), ground))))
        told = self.check(ground, "zz", other)
        self.assertEqual(len(grounded(told)[1]), 53)

    def test_a_label_that_is_not_open(self):
        for ground in [given("v", A), ("lets", "u", A, given("u", A)), equal("u")]:
            for other in (given("w", A), given("v", B), given("w", NO)):
                self.assertEqual(supplied(ground, "u", other), ground)

    def test_refused(self):
        wrong, worse = ("both", equal("x"), ("first", equal("x"))), ("twice", None)
        fine, other = given("u", A), given("w", A)
        self.assertEqual(self.refused(supplied, wrong, "u", other), ((1,), "saying"))
        self.assertEqual(self.refused(supplied, fine, "u", wrong), ((1,), "saying"))
        self.assertEqual(self.refused(supplied, worse, "u", other), ((0,), "form"))
        self.assertEqual(self.refused(supplied, fine, "u", worse), ((0,), "form"))
        self.assertEqual(self.refused(supplied, worse, "u", wrong), ((0,), "form"))
        self.assertEqual(self.refused(supplied, wrong, "u", worse), ((1,), "saying"))
        # Of the second also where the label isn't open.
        self.assertEqual(self.refused(supplied, given("v", A), "u", wrong), ((1,), "saying"))
        self.assertEqual(self.refused(supplied, wrong, "q", worse), ((1,), "saying"))

    def test_another_saying(self):
        for ground, other in [(given("u", A), given("w", B)), (("both", given("v", B), ("this", given("u", A), NO)),
            ("equal", NOUGHT)), (("lets", "v", B, given("u", A)), given("v", B))]:
            self.assertEqual(self.refused(supplied, ground, "u", other), ((), "saying"))

    def test_two_sayings_for_a_label(self):
        other = ("first", given("v", ("and", A, B)))
        for ground in [("both", given("u", A), given("v", B)), ("both", given("v", A), given("u", A)),
                       ("lets", "w", NO, ("both", given("u", A), given("v", NO)))]:
            self.assertEqual(self.refused(supplied, ground, "u", other), ((), "given"))
        self.check(("both", given("u", A), given("v", ("and", A, B))), "u", other)
        self.check(("both", given("u", A), ("lets", "v", B, given("v", B))), "u", other)
        self.check(("both", given("u", A), given("w", B)), "u", ("first", given("u", ("and", A, B))))

    def test_which_comes_first(self):
        wrong = ("first", equal("x"))
        ground = ("both", given("u", A), given("v", B))
        self.assertEqual(self.refused(supplied, ("both", ground, wrong), "u", given("v", NO)), ((1,), "saying"))
        self.assertEqual(self.refused(supplied, ground, "u", ("both", given("v", NO), wrong)), ((1,), "saying"))
        # Another saying ahead of two sayings for a label.
        self.assertEqual(self.refused(supplied, ground, "u", given("v", NO)), ((), "saying"))
        self.assertEqual(self.refused(supplied, ground, "u", ("first", given("v", ("and", A, NO)))), ((), "given"))

    def test_what_comes_may_be_greater(self):
        ground = bush("both", given("u", TRUE), 100)
        other = ("second", ("both", bush("both", given("w", TRUE), 60), ("equal", NOUGHT)))
        for _ in range(80):
            other = ("put", ("equal", X), TRUE, other)
        told = supplied(ground, "u", other)
        self.assertIs(alike(told, bush("both", other, 100)), True)

    def test_by_chance(self):
        done = {"put": 0, "given": 0}
        pool = [given("u", NO)]
        for seed in range(100):
            maker = Maker(seed, plain=seed % 3 > 0)
            ground = maker.ground(size=2, detours=1)
            for other in pool[-4:]:
                label = maker.chance.choice(LABELS)
                try:
                    whole = ("both", given(label, grounded(other)[0]), ground)
                    for _ in range(2):
                        whole = maker.detour(whole, set(), 2)
                    needs = dict(grounded(whole)[1])
                except NoGround:
                    continue
                held = dict(grounded(other)[1])
                if label not in needs:
                    self.assertEqual(supplied(whole, label, other), whole)
                elif any(needs.get(word, held[word]) != held[word] for word in held if word != label):
                    self.assertEqual(self.refused(supplied, whole, label, other), ((), "given"))
                    done["given"] += 1
                else:
                    self.check(whole, label, other)
                    done["put"] += 1
            pool.append(maker.detour(given(maker.chance.choice(LABELS), maker.saying(NAMES[:2])), set(), 1))
        self.assertGreater(done["put"], 100)
        self.assertGreater(done["given"], 10)

    def test_by_name(self):
        self.assertEqual(supplied(other=given("w", A), label="u", ground=given("u", A)), given("w", A))

    def test_refusals_are_ground_errors(self):
        with self.assertRaises(GroundError):
            supplied(given("u", A), "u", given("u", B))


if __name__ == "__main__":
    unittest.main()
