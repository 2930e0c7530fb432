import unittest

from prooffruit.grounds import grounds_of, is_plain
from tests.samples import B0, NO, NOUGHT, ONE, TRUE, X, Y

BODY = ("same", B0, X)

P = ("equal", ("num", 10))
Q = ("given", "u", ("same", X, X))
R = ("sums", 0, X, Y)


def made(p, q, r):
    """A ground of each word, with as many of p, q, r as it has grounds, and the number of these."""
    return [
        (("given", "u", TRUE), 0),
        (("lets", "u", TRUE, p), 1),
        (("uses", p, q), 2),
        (("both", p, q), 2),
        (("first", p), 1),
        (("second", p), 1),
        (("this", p, NO), 1),
        (("that", NO, p), 1),
        (("cases", p, "u", q, "v", r), 3),
        (("for", "x", p), 1),
        (("at", p, X), 1),
        (("such", BODY, NOUGHT, p), 1),
        (("open", p, "x", "u", q), 2),
        (("absurd", p, TRUE), 1),
        (("equal", X), 0),
        (("put", p, BODY, q), 2),
        (("reckoned", ("next", NOUGHT), ONE), 0),
        (("sums", 0, X, Y), 0),
        (("sums", 1, X, Y), 0),
        (("sums", 2, X, Y), 0),
        (("sums", 3, X, Y), 0),
        (("down", p), 1),
        (("never", p), 1),
        (("climb", BODY, p, "x", "u", q, X), 2),
        (("twice", p), 1),
    ]


class GroundsOf(unittest.TestCase):
    def test_of_each_word(self):
        for ground, many in made(P, Q, R):
            self.assertEqual(grounds_of(ground), [P, Q, R][:many], ground)

    def test_a_list_of_the_very_grounds(self):
        for ground, many in made(P, Q, R):
            told = grounds_of(ground)
            self.assertIsInstance(told, list)
            for one, other in zip(told, [P, Q, R]):
                self.assertIs(one, other)

    def test_grounds_alone_not_those_of_these(self):
        inner = ("both", P, Q)
        self.assertEqual(grounds_of(("uses", inner, ("first", inner))), [inner, ("first", inner)])

    def test_a_new_list_each_time(self):
        for ground, many in made(P, Q, R):
            told = grounds_of(ground)
            told.append(P)
            told.reverse()
            self.assertEqual(grounds_of(ground), [P, Q, R][:many], ground)

    def test_labels_and_names_like_words(self):
        self.assertEqual(grounds_of(("lets", "twice", NO, P)), [P])
        self.assertEqual(grounds_of(("open", P, "cases", "both", Q)), [P, Q])

    def test_by_name(self):
        self.assertEqual(grounds_of(ground=("first", P)), [P])


class Plain(unittest.TestCase):
    def test_each_word_but_twice(self):
        for ground, _ in made(P, Q, R):
            self.assertIs(is_plain(ground), ground[0] != "twice", ground)

    def test_twice_in_each_ground(self):
        twice = ("twice", P)
        for which in range(3):
            row = [P, Q, R]
            row[which] = twice
            for ground, many in made(*row):
                self.assertIs(is_plain(ground), ground[0] != "twice" and many <= which, ground)

    def test_twice_deep_within(self):
        for which in range(3):
            for word in range(len(made(P, Q, R))):
                row = [P, Q, R]
                row[which] = ("first", ("both", Q, ("twice", R)))
                ground, many = made(*row)[word]
                for _ in range(90):
                    ground = ("both", P, ("second", ground))
                self.assertIs(is_plain(ground), ground_word(word) != "twice" and many <= which)

    def test_twice_at_the_bottom(self):
        for leaf, plain in ((("twice", P), False), (P, True)):
            ground = leaf
            for _ in range(99):
                ground = ("this", ground, NO)
            self.assertIs(is_plain(ground), plain)

    def test_twice_as_a_label_or_a_name(self):
        for ground in [("given", "twice", NO), ("lets", "twice", NO, P), ("for", "twice", P),
                       ("open", P, "twice", "twice", Q), ("cases", P, "twice", Q, "twice", R),
                       ("equal", ("name", "twice")), ("given", "u", ("same", ("name", "twice"), X)),
                       ("climb", BODY, P, "twice", "twice", Q, ("name", "twice"))]:
            self.assertIs(is_plain(ground), True, ground)

    def test_greater_ones(self):
        ground = P
        for _ in range(5000):
            ground = ("down", ground)
        self.assertIs(is_plain(ground), True)
        self.assertIs(is_plain(("twice", ground)), False)

    def test_by_name(self):
        self.assertIs(is_plain(ground=P), True)
        self.assertIs(is_plain(ground=("twice", P)), False)


def ground_word(at):
    return made(P, Q, R)[at][0][0]


if __name__ == "__main__":
    unittest.main()
