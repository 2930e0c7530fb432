"""Point 22: books of grounds that stand on one another."""

import time
import unittest

from prooffruit.book import Book
from prooffruit.errors import (GroundError, Loose, NoBasis, NoDeed, NoGround, NoKept, Ring, Stood, Taken, TooMany,
                               Unlike)
from prooffruit.judge import grounded
from prooffruit.putting import alike, open_names, supplied
from prooffruit.runs import run
from prooffruit.yields import yielded
from tests.contraries import by_contraries
from tests.making import Maker
from tests.samples import B0, NO, NOUGHT, ODD, ONE, TRUE, X, Y, nested, tower

ONE_SAME = ("same", ONE, ONE)
SAME = ("reckoned", ONE, ONE)
SOME = ("some", ("same", B0, ONE))
SHOWN = ("such", SOME[1], ONE, SAME)


def given(label, saying):
    return ("given", label, saying)


def on(*labels):
    """A ground of (same 1 1) that stands on these labels, each of the same saying."""
    ground = SAME
    for label in labels:
        ground = ("second", ("both", ground, given(label, ONE_SAME)))
    return ground


def wider(one, other):
    """A ground of (same 1 1) by two, one piece more than both."""
    return ("put", one, ("same", B0, ONE), other)


def longer(ground, times=1):
    """The same, so many more within one another, of two pieces each."""
    for _ in range(times):
        ground = wider(SAME, ground)
    return ground


def wide(ground, leaves):
    """So many times the same, with one piece less besides."""
    row = [ground] * leaves
    while len(row) > 1:
        row = [wider(row[k], row[k + 1]) for k in range(0, len(row) - 1, 2)] + row[len(row) - len(row) % 2:]
    return row[0]


def by_second(ground):
    """The same with three pieces more."""
    return ("second", ("both", SAME, ground))


def pieces(ground):
    return 1 + sum(pieces(part) for part in ground[1:] if isinstance(part, tuple) and part[0] in WORDS)


def within(ground):
    return 1 + max([within(part) for part in ground[1:] if isinstance(part, tuple) and part[0] in WORDS], default=0)


WORDS = ("given", "both", "second", "put", "reckoned", "uses", "lets")


def refusal(told, *things, **more):
    try:
        told(*things, **more)
    except GroundError as refused:
        return type(refused), vars(refused)
    return None


class Books(unittest.TestCase):
    def refused(self, kind, fields, told, *things):
        self.assertEqual(refusal(told, *things), (kind, fields))

    def book(self, **rows):
        book = Book()
        for name, ground in rows.items():
            self.assertEqual(book.keep(name, ground), grounded(ground)[0])
        return book


class Keep(Books):
    def test_told_is_its_saying(self):
        book = Book()
        self.assertEqual(len(book), 0)
        self.assertEqual(book.listed(), [])
        self.assertEqual(book.keep("b", SAME), ONE_SAME)
        self.assertEqual(book.keep("a", SHOWN), SOME)
        self.assertEqual(book.keep("abcdefgh", on("b")), ONE_SAME)
        self.assertEqual(len(book), 3)
        self.assertEqual(book.listed(), ["a", "abcdefgh", "b"])
        self.assertEqual([book.says(name) for name in book.listed()], [SOME, ONE_SAME, ONE_SAME])
        self.assertEqual([book.handed(name) for name in book.listed()], [SHOWN, on("b"), SAME])
        self.assertEqual([book.basis(name) for name in book.listed()], [[], ["b"], []])
        self.assertEqual(book.opened("abcdefgh"), ("second", ("both", SAME, SAME)))

    def test_taken(self):
        book = self.book(a=SAME)
        for ground in (SAME, SHOWN, on("a"), ("equal", X), None, given("k", NO)):
            self.refused(Taken, {"name": "a"}, book.keep, "a", ground)
        self.assertEqual(book.handed("a"), SAME)
        self.assertEqual(len(book), 1)

    def test_no_ground(self):
        book = self.book(a=SAME)
        for thing in ODD + [tower("twice", SAME, 101), nested(SAME, 290, list)]:
            self.refused(NoGround, {"place": (), "word": "form"}, book.keep, "b", thing)
        wrong = ("both", ("uses", SAME, SAME), ("both", ("equal", X), given("k", NO)))
        self.refused(NoGround, {"place": (0,), "word": "saying"}, book.keep, "b", wrong)
        self.refused(NoGround, {"place": (0,), "word": "saying"}, book.mend, "a", wrong)
        self.refused(NoGround, {"place": (), "word": "form"}, book.mend, "a", tower("twice", SAME, 101))
        self.assertEqual(book.listed(), ["a"])

    def test_loose(self):
        book = self.book(a=SAME)
        for ground, names in [
            (("equal", X), ("x",)), (("both", ("equal", Y), ("equal", X)), ("x", "y")),
            (("for", "x", ("equal", ("plus", X, Y))), ("y",)), (given("b", ("same", X, X)), ("x",)),
            # In parts of which nothing is seen in the saying.
            (("second", ("both", ("equal", X), SAME)), ("x",)), (("such", ("same", ONE, ONE), Y, SAME), ("y",)),
            (("sums", 0, NOUGHT, X), ("x",)), (("put", ("equal", X), ONE_SAME, SAME), ("x",)),
            (("uses", ("lets", "u", ("same", Y, X), SAME), ("absurd", given("n", NO), ("same", Y, X))), ("x", "y")),
            (("at", ("for", "x", SAME), ("next", X)), ("x",)),
            (("climb", ONE_SAME, SAME, "x", "u", SAME, ("name", "z")), ("z",)),
            (("both", ("for", "x", ("equal", X)), ("equal", X)), ("x",)),
            (("both", ("equal", ("name", "abcdefgh")), ("equal", ("name", "ab"))), ("ab", "abcdefgh")),
        ]:
            self.refused(Loose, {"names": names}, book.keep, "b", ground)
            self.refused(Loose, {"names": names}, book.mend, "a", ground)
        for ground in [("for", "x", ("equal", X)), ("for", "x", ("second", ("both", ("equal", X), SAME))),
                       ("open", SHOWN, "x", "u", ("second", ("both", ("equal", X), SAME))),
                       ("climb", ONE_SAME, SAME, "x", "u", ("second", ("both", ("equal", X), SAME)), ONE)]:
            self.book(c=ground)

    def test_no_basis(self):
        book = self.book(a=SAME, s=SHOWN)
        for ground, label in [
            (given("b", ONE_SAME), "b"), (given("k", ONE_SAME), "k"), (given("a", TRUE), "a"), (given("a", SOME), "a"),
            (given("s", ONE_SAME), "s"), (("both", given("z", NO), given("k", NO)), "k"),
            (("both", given("a", ONE_SAME), given("s", NO)), "s"), (("both", given("s", NO), given("a", NO)), "a"),
            (("both", given("aa", ONE_SAME), given("a", ONE_SAME)), "aa"),
        ]:
            self.refused(NoBasis, {"label": label}, book.keep, "b", ground)
        self.refused(NoBasis, {"label": "b"}, book.keep, "b", given("b", ONE_SAME))
        # A label that is closed needn't be kept, nor of what saying.
        for ground in [("lets", "k", NO, given("k", NO)), ("lets", "a", NO, given("a", NO)),
                       ("both", given("a", ONE_SAME), ("lets", "a", NO, given("a", NO)))]:
            name = "c" * (len(book) - 1)
            book.keep(name, ground)
            self.assertEqual(book.basis(name), ["a"] if ground[0] == "both" else [])

    def test_order_of_refusals(self):
        book = self.book(a=SAME)
        self.refused(Taken, {"name": "a"}, book.keep, "a", ("uses", SAME, SAME))
        self.refused(NoGround, {"place": (1,), "word": "saying"}, book.keep, "b",
                     ("both", ("equal", X), ("uses", SAME, SAME)))
        self.refused(Loose, {"names": ("x",)}, book.keep, "b", ("both", ("equal", X), given("k", NO)))
        self.refused(NoBasis, {"label": "k"}, book.mend, "a", ("both", given("k", NO), given("a", ONE_SAME)))
        self.refused(NoKept, {"name": "b"}, book.mend, "b", None)
        self.refused(Loose, {"names": ("x",)}, book.mend, "a", ("both", ("equal", X), given("k", NO)))
        # Of another saying, and standing on itself.
        self.refused(Unlike, {"saying": ("and", ONE_SAME, ONE_SAME)}, book.mend, "a",
                     ("both", SAME, given("a", ONE_SAME)))

    def test_what_is_refused_changes_nothing(self):
        book = self.book(a=SAME, b=on("a"))
        for told, things in [(book.keep, ("a", SHOWN)), (book.keep, ("c", given("k", NO))), (book.mend, ("a", SHOWN)),
                             (book.mend, ("a", on("b"))), (book.drop, ("a",)), (book.mend, ("c", SAME)),
                             (book.drop, ("c",)), (book.keep, ("c", ("equal", X))), (book.opened, ("c",))]:
            self.assertIsNotNone(refusal(told, *things))
            self.assertEqual([book.handed(name) for name in book.listed()], [SAME, on("a")])
        self.assertIsNone(book.back())
        self.assertEqual(book.listed(), ["a"])


class Mend(Books):
    def test_another_one_of_its_saying(self):
        book = self.book(a=SAME, b=on("a"))
        self.assertIsNone(book.mend("a", ("equal", ONE)))
        self.assertEqual(book.handed("a"), ("equal", ONE))
        self.assertEqual(book.opened("b"), ("second", ("both", SAME, ("equal", ONE))))
        book.keep("c", SAME)
        book.mend("a", on("c"))
        self.assertEqual((book.basis("a"), book.basis("b")), (["c"], ["a"]))
        book.mend("b", ("equal", ONE))
        self.assertEqual(book.basis("b"), [])
        self.refused(NoKept, {"name": "d"}, book.mend, "d", SAME)
        self.refused(Unlike, {"saying": SOME}, book.mend, "a", SHOWN)
        self.refused(Unlike, {"saying": ("same", ONE, ("next", NOUGHT))}, book.mend, "a",
                     ("reckoned", ONE, ("next", NOUGHT)))

    def check_ring(self, book, name, ground):
        kind, fields = refusal(book.mend, name, ground)
        self.assertIs(kind, Ring)
        names = fields["names"]
        self.assertIsInstance(names, tuple)
        self.assertEqual(names[0], name)
        self.assertEqual(len(set(names)), len(names))
        stands = {word: book.basis(word) for word in book.listed()}
        stands[name] = [label for label, _ in grounded(ground)[1]]
        for one, other in zip(names, names[1:] + names[:1]):
            self.assertIn(other, stands[one])
        return names

    def test_ring(self):
        book = self.book(a=SAME, b=on("a"), c=on("b"), d=on("a", "c"), e=SAME)
        self.assertEqual(self.check_ring(book, "a", on("a")), ("a",))
        self.assertEqual(self.check_ring(book, "a", on("b")), ("a", "b"))
        self.assertEqual(self.check_ring(book, "a", on("c")), ("a", "c", "b"))
        self.assertIn(self.check_ring(book, "a", on("d")), [("a", "d", "c", "b"), ("a", "d")])
        self.assertEqual(self.check_ring(book, "b", on("c")), ("b", "c"))
        self.assertEqual(self.check_ring(book, "b", on("d", "e")), ("b", "d", "c"))
        self.assertEqual(self.check_ring(book, "e", on("e")), ("e",))
        self.check_ring(book, "a", on("e", "d", "c", "b", "a"))
        self.assertIsNone(book.mend("e", on("d")))
        self.check_ring(book, "a", on("e"))
        self.assertIsNone(book.mend("d", on("b")))
        self.assertEqual(self.check_ring(book, "a", on("e")), ("a", "e", "d", "b"))
        self.assertEqual(book.handed("a"), SAME)

    def test_long_ring(self):
        book = Book()
        names = [first + second for first in "abcdefghijklmnopqrst" for second in "abcdefghijklmnopqrst"]
        book.keep(names[0], SAME)
        for one, other in zip(names, names[1:]):
            book.keep(other, on(one))
        self.assertEqual(self.check_ring(book, names[0], on(names[-1])), (names[0],) + tuple(reversed(names[1:])))


class Drop(Books):
    def test_drop(self):
        book = self.book(a=SAME, c=on("a"), b=on("a", "c"), d=SAME)
        self.refused(Stood, {"names": ("b", "c")}, book.drop, "a")
        self.refused(Stood, {"names": ("b",)}, book.drop, "c")
        self.refused(NoKept, {"name": "e"}, book.drop, "e")
        self.assertIsNone(book.drop("b"))
        self.assertEqual((len(book), book.listed()), (3, ["a", "c", "d"]))
        self.refused(NoKept, {"name": "b"}, book.drop, "b")
        for told in (book.says, book.handed, book.basis, book.opened):
            self.refused(NoKept, {"name": "b"}, told, "b")
        self.refused(Stood, {"names": ("c",)}, book.drop, "a")
        book.mend("c", SAME)
        book.drop("a")
        self.assertEqual(book.keep("a", SHOWN), SOME)
        self.assertEqual(book.listed(), ["a", "c", "d"])


class Back(Books):
    def test_each_deed(self):
        book = self.book(a=SAME)
        book.mend("a", ("equal", ONE))
        book.drop("a")
        self.assertEqual(len(book), 0)
        self.assertIsNone(book.back())
        self.assertEqual(book.handed("a"), ("equal", ONE))
        book.back()
        self.assertEqual(book.handed("a"), SAME)
        book.back()
        self.assertEqual(book.listed(), [])
        for _ in range(2):
            self.refused(NoDeed, {}, book.back)
        self.refused(NoDeed, {}, Book().back)

    def test_what_is_kept_behind_a_back(self):
        book = self.book(a=SAME, b=on("a"))
        book.back()
        self.assertEqual(book.keep("b", SHOWN), SOME)
        book.back()
        book.back()
        self.refused(NoBasis, {"label": "a"}, book.keep, "b", on("a"))
        self.refused(NoDeed, {}, book.back)
        book.keep("a", SHOWN)
        self.assertEqual(book.says("a"), SOME)

    def test_what_was_refused_is_no_deed(self):
        book = self.book(a=SAME)
        for told, things in [(book.keep, ("a", SAME)), (book.mend, ("a", SHOWN)), (book.drop, ("b",)),
                             (book.mend, ("a", on("a"))), (book.keep, ("b", ("equal", X)))]:
            self.assertIsNotNone(refusal(told, *things))
        book.back()
        self.assertEqual(len(book), 0)

    def test_all_history(self):
        """Whatever was done: behind as many backs all is as it was, and each opened one is right."""
        for seed in range(12):
            chance = Maker(seed).chance
            book, told = Book(), []
            for _ in range(60):
                before = self.state(book)
                names = book.listed()
                name = chance.choice("abcdef")
                ground = on(*[chance.choice(names) for _ in range(chance.randrange(3)) if names])
                ground = chance.choice([ground, ("equal", ONE)])
                deed = chance.choice([lambda: book.keep(name, ground), lambda: book.mend(name, ground),
                                      lambda: book.drop(name), book.back])
                if refusal(deed) is not None:
                    self.assertEqual(self.state(book), before)
                elif deed == book.back:
                    self.assertEqual(self.state(book), told.pop())
                else:
                    told.append(before)
            while told:
                book.back()
                self.assertEqual(self.state(book), told.pop())
            self.refused(NoDeed, {}, book.back)

    def state(self, book):
        names = book.listed()
        for name in names:
            self.assertEqual(grounded(book.opened(name)), (book.says(name), ()))
        return [(name, book.says(name), book.handed(name), book.basis(name)) for name in names]


class Opened(Books):
    def test_as_by_supplied(self):
        book = self.book(a=SHOWN)
        shown = ("such", SOME[1], ("next", NOUGHT), ("reckoned", ("next", NOUGHT), ONE))
        first = ("open", given("a", SOME), "x", "u", shown)
        book.keep("b", first)
        second = ("both", given("a", SOME), ("lets", "b", NO, ("both", given("b", NO), given("a", SOME))))
        book.keep("c", second)
        third = ("lets", "a", SOME, ("both", given("a", SOME), given("b", SOME)))
        third = ("both", given("c", grounded(second)[0]), third)
        book.keep("d", third)
        due = {"a": SHOWN}
        for name in "bcd":
            due[name] = book.handed(name)
            for label in book.basis(name):
                due[name] = supplied(due[name], label, due[label])
        for name in "abcd":
            self.assertIs(alike(book.opened(name), due[name]), True)
            self.assertEqual(grounded(book.opened(name)), (book.says(name), ()))
            self.assertEqual(open_names(book.opened(name)), [])

    def test_names_and_labels_closed_around(self):
        # Each one that stands there has no open names or labels: so it may stand beneath any closing.
        inner = ("for", "x", ("lets", "u", ("same", X, X), given("u", ("same", X, X))))
        saying = grounded(inner)[0]
        both = ("both", given("u", ("same", X, ONE)), given("a", saying))
        outer = ("for", "x", ("lets", "u", ("same", X, ONE), both))
        book = self.book(a=inner, b=outer)
        told = book.opened("b")
        self.assertEqual(grounded(told), (grounded(outer)[0], ()))
        self.assertIs(alike(told, supplied(outer, "a", inner)), True)

    def test_stands_twice_on_the_next_one(self):
        book = self.book(a=SAME)
        book.keep("b", ("both", given("a", ONE_SAME), given("a", ONE_SAME)))
        self.assertEqual(book.opened("b"), ("both", SAME, SAME))
        self.assertEqual(book.basis("b"), ["a"])

    def test_thirty_by_twos(self):
        start = time.monotonic()
        book = Book()
        book.keep("a", SAME)
        names = ["a"]
        for letter in "bcdefghijklmnopqrstuvwxyz" + "abcde":
            name = letter if letter not in names else letter * 2
            last = given(names[-1], ONE_SAME)
            book.keep(name, wider(last, last))
            names.append(name)
        # With each turn one more and twice as many pieces: 1, 3, 7 .. 1023, 2047.
        for at, name in enumerate(names):
            if at <= 9:
                self.assertEqual(grounded(book.opened(name)), (ONE_SAME, ()))
            else:
                self.refused(TooMany, {}, book.opened, name)
        self.assertLess(time.monotonic() - start, 20)

    def test_just_two_thousand_pieces(self):
        book = self.book(a=by_second(wide(SAME, 198)))
        five = wide(given("a", ONE_SAME), 5)
        self.assertEqual(pieces(book.handed("a")), 398)
        for name, ground, due in [("b", longer(five, 3), 2000), ("c", by_second(longer(five, 1)), 1999),
                                  ("d", by_second(longer(five, 2)), None), ("e", longer(five, 4), None)]:
            book.keep(name, ground)
            self.assertLess(pieces(ground), 20)
            if due is None:
                self.refused(TooMany, {}, book.opened, name)
            else:
                told = book.opened(name)
                self.assertEqual((pieces(told), grounded(told)), (due, (ONE_SAME, ())))
        # What stands on one that is too great is too great.
        book.keep("f", given("d", ONE_SAME))
        self.refused(TooMany, {}, book.opened, "f")
        book.mend("a", SAME)
        self.assertEqual(pieces(book.opened("f")), 2001 - 5 * 397)

    def test_a_hundred_and_one_within_one_another(self):
        book = self.book(a=longer(SAME, 59))
        book.keep("b", longer(given("a", ONE_SAME), 40))
        book.keep("c", longer(given("a", ONE_SAME), 41))
        book.keep("d", wider(longer(given("a", ONE_SAME), 39), longer(SAME, 98)))
        for name in "bd":
            told = book.opened(name)
            self.assertEqual((within(told), grounded(told)), (100, (ONE_SAME, ())))
        self.refused(TooMany, {}, book.opened, "c")
        self.assertEqual(within(book.handed("c")), 42)

    def test_closed_labels_that_are_kept_names(self):
        book = self.book(a=wide(SAME, 900))
        inner = wide(given("a", ONE_SAME), 20)
        book.keep("b", by_second(("put", SAME, ("same", B0, ONE), (
            "uses", ("lets", "a", ONE_SAME, inner), given("a", ONE_SAME)))))
        told = book.opened("b")
        self.assertEqual(told[1][2][3], ("uses", ("lets", "a", ONE_SAME, inner), wide(SAME, 900)))
        self.assertEqual(grounded(told), (ONE_SAME, ()))
        book.keep("c", wider(given("a", ONE_SAME), ("uses", ("lets", "b", ONE_SAME, given("b", ONE_SAME)), SAME)))
        self.assertEqual(grounded(book.opened("c")), (ONE_SAME, ()))

    def test_each_on_the_next_two(self):
        start = time.monotonic()
        book = self.book(a=SAME, b=SAME)
        names = ["a", "b"]
        for first in "ab":
            for second in "cdefghijklmnopqrstuvwxyz":
                names.append(first + second)
                book.keep(names[-1], wider(given(names[-2], ONE_SAME), given(names[-3], ONE_SAME)))
        self.assertEqual(pieces(book.opened("ad")), 5)
        for name in names[20:]:
            self.refused(TooMany, {}, book.opened, name)
        self.assertLess(time.monotonic() - start, 20)

    def test_four_hundred_in_a_row(self):
        start = time.monotonic()
        book = Book()
        names = [first + second for first in "abcdefghijklmnopqrst" for second in "abcdefghijklmnopqrst"]
        book.keep(names[0], SAME)
        for one, other in zip(names, names[1:]):
            book.keep(other, longer(given(one, ONE_SAME)))
        self.assertEqual(len(book), 400)
        self.assertEqual(grounded(book.opened(names[99])), (ONE_SAME, ()))
        self.refused(TooMany, {}, book.opened, names[100])
        self.refused(TooMany, {}, book.opened, names[399])
        self.assertLess(time.monotonic() - start, 20)
        bare = Book()
        bare.keep(names[0], SAME)
        for one, other in zip(names, names[1:]):
            bare.keep(other, given(one, ONE_SAME))
        # Nothing but givens: so what comes is no greater.
        self.assertEqual(bare.opened(names[399]), SAME)

    def test_by_contraries(self):
        book = self.book(a=by_contraries(SAME), b=on("a"))
        self.assertEqual(book.opened("b"), ("second", ("both", SAME, by_contraries(SAME))))
        book.keep("c", by_contraries(on("b")))
        self.assertEqual(grounded(book.opened("c")), (ONE_SAME, ()))

    def test_yield(self):
        book = self.book(a=("for", "x", ("such", ("same", B0, ("next", X)), ("next", X), ("equal", ("next", X)))))
        twice = ("open", ("at", given("a", book.says("a")), ("num", 3)), "y", "u", (
            "such", TRUE, ("plus", Y, Y), ("equal", NOUGHT)))
        book.keep("b", twice)
        self.assertEqual(run(yielded(book.opened("b")), {}), 8)


class Alone(Books):
    def test_two_side_by_side(self):
        one, other = self.book(a=SAME), self.book(a=SHOWN)
        self.assertEqual((one.says("a"), other.says("a")), (ONE_SAME, SOME))
        one.drop("a")
        self.assertEqual((len(one), len(other)), (0, 1))
        self.refused(NoDeed, {}, Book().back)
        other.back()
        one.back()
        self.assertEqual((len(one), len(other)), (1, 0))

    def test_told_lists_are_the_askers_own(self):
        book = self.book(a=SAME, b=on("a"))
        for told in (book.listed, lambda: book.basis("b")):
            rows = told()
            self.assertIsInstance(rows, list)
            rows.append("z")
            rows[0] = "y"
            self.assertNotIn("z", told())
            self.assertNotIn("y", told())
        self.assertEqual(book.opened("b"), ("second", ("both", SAME, SAME)))

    def test_by_name(self):
        book = Book()
        book.keep(ground=SAME, name="a")
        book.mend(ground=("equal", ONE), name="a")
        self.assertEqual(book.says(name="a"), ONE_SAME)
        self.assertEqual(book.handed(name="a"), ("equal", ONE))
        self.assertEqual(book.basis(name="a"), [])
        self.assertEqual(book.opened(name="a"), ("equal", ONE))
        self.assertIsNone(book.drop(name="a"))


if __name__ == "__main__":
    unittest.main()
