"""Point 23: what a desk answers."""

import unittest

from prooffruit.desk import Desk
from prooffruit.errors import (GroundError, Loose, NoBasis, NoDeed, NoGround, NoKept, NoProgram, NoRow, NoText, NoWorth,
                               NoYield, Ring, Stood, Taken, TooMany, Unlike)
from prooffruit.judge import grounded
from prooffruit.lore import lore
from prooffruit.texts import read, written
from prooffruit.yields import yielded
from tests.contraries import by_contraries
from tests.samples import B0, NO, NOUGHT, ONE, X
from tests.test_promise import halves

SAME = "(reckoned (num 1) (num 1))"
SAID = "(same (num 1) (num 1))"
NEXT = "(for x (such (same (bound 0) (next (name x))) (next (name x)) (equal (next (name x)))))"
NEXT_SAID = "(all (some (same (bound 0) (next (bound 1)))))"


def on(*labels):
    text = SAME
    for label in labels:
        text = f"(second (both {text} (given {label} {SAID})))"
    return text


class Desks(unittest.TestCase):
    def desk(self, **rows):
        desk = Desk()
        for name, text in rows.items():
            self.assertEqual(desk.say(f"keep {name} {text}"), written(grounded(read(text))[0]))
        return desk

    def refused(self, desk, said, kind, **fields):
        with self.assertRaises(GroundError) as held:
            desk.say(said)
        self.assertIs(type(held.exception), kind, said)
        self.assertEqual(vars(held.exception), fields, said)


class Rows(Desks):
    def test_each_row(self):
        desk = Desk()
        for row, answer in [
            ("names", "none"), ("keep b " + SAME, SAID), ("keep a " + NEXT, NEXT_SAID), ("names", "a b"),
            ("keep abcdefgh " + on("b"), SAID), ("names", "a abcdefgh b"), ("says a", NEXT_SAID), ("says b", SAID),
            ("yields a", "(for x (next (name x)))"), ("yields b", "(nothing)"), ("yields abcdefgh", "(nothing)"),
            ("runs a 0", "1"), ("runs a 41", "42"), ("runs b", "none"), ("mend b (equal (num 1))", "ok"),
            ("drop abcdefgh", "ok"), ("names", "a b"), ("back", "ok"), ("names", "a abcdefgh b"), ("back", "ok"),
            ("back", "ok"), ("names", "a b"), ("drop a", "ok"), ("drop b", "ok"), ("names", "none"), ("back", "ok"),
            ("names", "b"), ("back", "ok"), ("back", "ok"), ("back", "ok"), ("names", "none"),
        ]:
            self.assertEqual(desk.say(row), answer, row)

    def test_names_that_are_words_of_rows(self):
        desk = Desk()
        for name in ["none", "keep", "back", "names", "runs"]:
            self.assertEqual(desk.say(f"keep {name} {SAME}"), SAID)
        self.assertEqual(desk.say("names"), "back keep names none runs")
        self.assertEqual(desk.say("drop back"), "ok")
        self.assertEqual(desk.say("back"), "ok")
        self.assertEqual(desk.say("says keep"), SAID)

    def test_worths_of_each_kind(self):
        one = ("such", ("same", B0, B0), ONE, ("equal", ONE))
        grounds = {
            "nothing": ("equal", ONE), "figures": ("such", ("same", B0, B0), ("num", 12), ("equal", ("num", 12))),
            "pair": ("both", one, ("such", ("same", B0, B0), NOUGHT, ("equal", NOUGHT))),
            "this": ("this", ("equal", ONE), NO), "that": ("that", NO, one),
            "deep": ("this", ("both", ("this", ("equal", ONE), NO),
                              ("that", NO, ("both", one, ("this", ("equal", ONE), NO)))), NO),
            "great": ("such", ("same", B0, B0), ("num", 10 ** 60 - 1), ("equal", ("num", 10 ** 60 - 1))),
        }
        desk = self.desk(**{name: written(ground) for name, ground in grounds.items()})
        for name, answer in [("nothing", "none"), ("figures", "12"), ("pair", "(1 0)"), ("this", "(this none)"),
                             ("that", "(that 1)"), ("deep", "(this ((this none) (that (1 (this none)))))"),
                             ("great", "9" * 60)]:
            self.assertEqual(desk.say("runs " + name), answer)

    def test_runs_called_with_numbers(self):
        desk = self.desk(**{name: written(ground) for name, ground in lore().items()})
        for row, answer in [("parted 0", "(this none)"), ("parted 7", "(that 6)"), ("halves 9", "(4 (that none))"),
                            ("less 3 5", "(this 2)"), ("less 5 3", "(that 2)"), ("rest 17 4", "(3 (2 2))")]:
            self.assertEqual(desk.say("runs " + row), answer)
        self.assertEqual(desk.say("yields halves"), written(yielded(lore()["halves"])))
        self.assertEqual(desk.say("says rest"), written(grounded(lore()["rest"])[0]))

    def test_each_desk_has_its_own_book(self):
        one, other = Desk(), Desk()
        one.say("keep a " + SAME)
        self.assertEqual((one.say("names"), other.say("names")), ("a", "none"))
        self.refused(other, "says a", NoKept, name="a")

    def test_by_name(self):
        self.assertEqual(Desk().say(row="names"), "none")


class NoRows(Desks):
    def test_by_its_words(self):
        desk = self.desk(a=SAME, b=NEXT)
        for row in [
            "", " ", "  ", "name", "names ", " names", "names a", "names  ", "Names", "back ", "back a", " back",
            "back  ",
            "keep", "keep ", "keep a", "keep A " + SAME, "keep abcdefghi " + SAME, "keep  " + SAME, "keep 1 " + SAME,
            " keep c " + SAME, "keep (a) " + SAME, "keep a1 " + SAME, "keep \u00e9 " + SAME, "keep" + SAME,
            "Keep c " + SAME,
            "mend", "mend a", "mend A " + SAME, "mend  a " + SAME, "drop", "drop ", "drop a ", "drop a b", "drop A",
            "drop  a", "drop abcdefghi", "drop 1", "says", "says ", "says a ", "says a b", "says A", "says  a",
            "yields", "yields ", "yields a ", "yields a 1", "yields A", "runs", "runs ", "runs A", "runs 1", "runs 1 a",
            "runs b ", "runs b  1", "runs b 1 ", "runs b 01", "runs b 00", "runs b -1", "runs b +1", "runs b 1.0",
            "runs b 1_0", "runs b " + "1" * 61, "runs b 1" + "0" * 60, "runs b 0" + "1" * 60, "runs b a", "runs b 1 a",
            "runs b (1)", "runs b \u0661", "runs b \u00b2", "runs b 1\n", "names\n", "names\t", "back\n", "runs\tb 1",
            "open a", "keeps a " + SAME, "run b 1", "says a\n", "no such row",
        ]:
            self.refused(desk, row, NoRow, row=row)
        self.assertEqual(desk.say("names"), "a b")

    def test_rows_ahead_of_all_else(self):
        desk = self.desk(a=SAME)
        for row in ["keep A (a", "keep a", "runs z 01", "runs z " + "9" * 61, "drop z z", "yields z 1", "mend Z (no)"]:
            self.refused(desk, row, NoRow, row=row)
        empty = Desk()
        self.refused(empty, "back back", NoRow, row="back back")
        self.refused(empty, "back", NoDeed)

    def test_numbers_of_sixty_figures(self):
        desk = self.desk(a=NEXT)
        self.assertEqual(desk.say("runs a " + "9" * 59 + "8"), "9" * 60)
        self.refused(desk, "runs a " + "9" * 60, TooMany)


class Texts(Desks):
    def test_counted_in_the_text(self):
        desk = self.desk(a=SAME)
        for text, at in [("", 0), (" ", 0), ("(a", 2), ("(a ", 3), ("(a  b)", 3), ("a", 0), (" (a)", 0), ("(a) ", 3),
                         ("(a)  ", 3), ("(a) (b)", 3), ("(a 01)", 4), ("(a " + "1" * 61 + ")", 63), ("( a)", 1),
                         ("(abcdefghi)", 9), ("(a b\n)", 4), (")", 0), ("(given u (no)", 13), ("(a\u00e9)", 2)]:
            for row in ("keep b ", "mend a ", "keep a ", "mend z "):
                self.refused(desk, row + text, NoText, at=at)

    def test_text_ahead_of_the_name(self):
        desk = self.desk(a=SAME)
        self.refused(desk, "keep a (x", NoText, at=2)
        self.refused(desk, "mend b (x", NoText, at=2)
        self.refused(desk, "keep a (x)", Taken, name="a")
        self.refused(desk, "mend b (x)", NoKept, name="b")

    def test_trees_that_are_no_grounds(self):
        desk = self.desk(a=SAME)
        for text, place, word in [("(x)", (), "form"), ("(equal (num 0) (num 0))", (), "form"),
                                  ("(equal 0)", (), "form"),
                                  ("(both (equal (num 0)) (equal))", (1,), "form"), ("(sums 0 (num 0))", (), "form"),
                                  ("(first (equal (num 0)))", (), "saying"),
                                  ("(reckoned (num 0) (num 1))", (), "number"),
                                  ("(for x (given u (same (name x) (num 0))))", (), "name")]:
            for row in ("keep b ", "mend a "):
                self.refused(desk, row + text, NoGround, place=place, word=word)
        deep = "(twice " * 100 + SAME + ")" * 100
        self.refused(desk, "keep b " + deep, NoGround, place=(), word="form")
        self.refused(desk, "keep b " + "(a " * 300 + "b" + ")" * 300, NoGround, place=(), word="form")
        self.refused(desk, "keep b " + "(a " * 301 + "b" + ")" * 301, NoText, at=900)


class Refusals(Desks):
    def test_of_the_book(self):
        desk = self.desk(a=SAME, b=on("a"), c=on("b", "a"))
        self.refused(desk, "keep a " + SAME, Taken, name="a")
        self.refused(desk, "keep d (equal (name x))", Loose, names=("x",))
        self.refused(desk, "keep d (given d (no))", NoBasis, label="d")
        self.refused(desk, "mend d " + SAME, NoKept, name="d")
        self.refused(desk, "mend a (equal (num 0))", Unlike, saying=("same", NOUGHT, NOUGHT))
        self.refused(desk, "mend a " + on("a"), Ring, names=("a",))
        self.refused(desk, "mend a " + on("b"), Ring, names=("a", "b"))
        self.refused(desk, "drop a", Stood, names=("b", "c"))
        for row in ("drop d", "says d", "yields d", "runs d", "runs d 1"):
            self.refused(desk, row, NoKept, name="d")
        self.assertEqual(desk.say("names"), "a b c")
        for _ in range(3):
            self.assertEqual(desk.say("back"), "ok")
        self.refused(desk, "back", NoDeed)

    def test_by_contraries(self):
        desk = self.desk(a=written(by_contraries(("equal", ONE))))
        said = "(same (num 1) (num 1))"
        desk.say(f"keep b (both (equal (num 0)) (given a {said}))")
        for row, place in [("yields a", ()), ("runs a", ()), ("runs a 1", ()), ("yields b", (1,)), ("runs b", (1,))]:
            self.refused(desk, row, NoYield, place=place)
        self.assertEqual(desk.say("says b"), f"(and (same (num 0) (num 0)) {said})")

    def test_greater(self):
        desk = self.desk(a=SAME)
        for one, other in zip("abcdefghijklmnopqrstuvwxy", "bcdefghijklmnopqrstuvwxyz"):
            given = f"(given {one} {SAID})"
            desk.say(f"keep {other} (put {given} (same (bound 0) (num 1)) {given})")
        self.assertEqual(desk.say("yields j"), "(nothing)")
        for row in ("yields k", "runs k", "runs z 1"):
            self.refused(desk, row, TooMany)
        self.assertEqual(desk.say("says z"), SAID)

    def test_runs(self):
        desk = self.desk(a=NEXT, b=SAME, c="(both (for x (equal (name x))) " + NEXT + ")",
                         d=written(("for", "x", halves(X))), e="(lets u (some (same (bound 0) (num 1))) " + NEXT + ")")
        kind = ("from", ("number",), ("number",))
        self.refused(desk, "runs a", NoWorth, thing=kind)
        self.refused(desk, "runs c", NoWorth, thing=kind)
        self.refused(desk, "runs a 1 2", NoProgram, place=())
        self.refused(desk, "runs a 1 2 3", NoProgram, place=(0,))
        self.refused(desk, "runs b 1", NoProgram, place=())
        self.refused(desk, "runs b 1 2 3", NoProgram, place=(0, 0))
        self.refused(desk, "runs e", NoWorth, thing=("from", ("number",), kind))
        self.assertEqual(desk.say("runs e 1 2"), "3")
        self.assertEqual(desk.say("runs d 20"), "(10 (this none))")
        self.refused(desk, "runs d 100000", TooMany)

    def test_yields_that_are_called_with_many_numbers(self):
        desk = self.desk(a=NEXT)
        # The yield itself has three within one another; of the calls the second one is wrong.
        self.refused(desk, "runs a" + " 1" * 247, NoProgram, place=(0,) * 245)
        self.refused(desk, "runs a" + " 1" * 248, NoProgram, place=())


if __name__ == "__main__":
    unittest.main()
