"""Point 21: texts of trees."""

import unittest

from prooffruit.errors import GroundError, NoText
from prooffruit.texts import read, written
from tests.making import Maker
from tests.samples import GREAT, nested


def at(text):
    """The number of the first sign that can't stand there, or None."""
    try:
        read(text)
    except NoText as refusal:
        return refusal.at
    return None


TREES = [
    (("a",), "(a)"), (("abcdefgh",), "(abcdefgh)"), (("z", "y"), "(z y)"), (("a", 0), "(a 0)"), (("a", 10), "(a 10)"),
    (("a", GREAT - 1), "(a " + "9" * 60 + ")"), (("a", 10 ** 59), "(a 1" + "0" * 59 + ")"),
    (("a", ("b",)), "(a (b))"), (("a", ("b",), ("c",)), "(a (b) (c))"), (("a", ("b", 1), "c", 2), "(a (b 1) c 2)"),
    (("a", "b", "c", "d"), "(a b c d)"), (("a", 1, 2, 3), "(a 1 2 3)"), (("a", (("b", ("c", ("d",)), "e"))),
                                                                         "(a (b (c (d)) e))"),
    (("same", ("num", 0), ("plus", ("name", "x"), ("num", 17))), "(same (num 0) (plus (name x) (num 17)))"),
    (("a", 0, 0), "(a 0 0)"), (("a", 1, "a", 1), "(a 1 a 1)"), (("no",), "(no)"),
]


class Written(unittest.TestCase):
    def test_trees(self):
        for tree, text in TREES:
            self.assertEqual(written(tree), text)

    def test_programs_that_are_greater(self):
        deep = nested("a", 0, tuple)
        for _ in range(400):
            deep = ("next", deep)
        self.assertEqual(written(deep), "(next " * 400 + "a" + ")" * 400)

    def test_by_name(self):
        self.assertEqual(written(tree=("a",)), "(a)")
        self.assertEqual(read(text="(a)"), ("a",))


class Read(unittest.TestCase):
    def test_trees(self):
        for tree, text in TREES:
            told = read(text)
            self.assertEqual(told, tree)
            self.assertIs(type(told), tuple)

    def test_numbers_are_whole_ones(self):
        self.assertIs(type(read("(a 1)")[1]), int)
        self.assertIs(type(read("(a 0)")[1]), int)
        self.assertEqual(read("(a 1 b)")[1:], (1, "b"))

    def test_back_again(self):
        for seed in range(60):
            ground = Maker(seed).ground()
            self.assertEqual(read(written(ground)), ground)

    def test_three_hundred_within_one_another(self):
        text = "(a " * 299 + "(b)" + ")" * 299
        tree = ("b",)
        for _ in range(299):
            tree = ("a", tree)
        self.assertEqual(read(text), tree)
        self.assertEqual(written(tree), text)
        more = "(a " * 300 + "(b)" + ")" * 300
        self.assertEqual(at(more), 900)
        self.assertEqual(at("(a " * 300 + "b" + ")" * 300), None)
        self.assertEqual(at("(a " * 5000), 900)
        # It counts what is open at once, not what was.
        self.assertEqual(at("(a" + " (b)" * 1000 + ")"), None)
        self.assertEqual(at("(a " * 298 + "(b) (c (d" + ")" * 300), None)
        self.assertEqual(at("(a " * 298 + "(b) (c (d (e" + ")" * 300), 298 * 3 + 10)

    def test_two_thousand_parts(self):
        tree = ("a",) + tuple(("b", n) if n % 2 else n for n in range(2000))
        self.assertEqual(read(written(tree)), tree)
        self.assertEqual(len(written(tree)), len(" ".join(f"(b {n})" if n % 2 else str(n) for n in range(2000))) + 4)

    def test_long_texts(self):
        row = "(a" + " abcdefgh" * 22000 + ")"
        self.assertEqual(len(read(row)), 22001)


class Refused(unittest.TestCase):
    def test_without_signs(self):
        self.assertEqual(at(""), 0)
        with self.assertRaises(GroundError):
            read("")

    def test_at_the_start(self):
        for sign in ") a0A\n(":
            self.assertEqual(at(sign), 1 if sign == "(" else 0)
        self.assertEqual(at(" (a)"), 0)
        self.assertEqual(at("a"), 0)
        self.assertEqual(at("(("), 1)

    def test_each_sign_at_each_sort_of_place(self):
        signs = {"(": "(", ")": ")", " ": " ", "letter": "a", "nought": "0", "figure": "7"}
        for before, fits in [
            ("", ["("]), ("(", ["letter"]), ("(a", [")", " ", "letter"]), ("(abcdefg", [")", " ", "letter"]),
            ("(abcdefgh", [")", " "]), ("(a ", ["(", "letter", "nought", "figure"]), ("(a b", [")", " ", "letter"]),
            ("(a abcdefgh", [")", " "]), ("(a 0", [")", " "]), ("(a 7", [")", " ", "nought", "figure"]),
            ("(a 70", [")", " ", "nought", "figure"]), ("(a " + "9" * 59, [")", " ", "nought", "figure"]),
            ("(a " + "9" * 60, [")", " "]), ("(a (b)", [")", " "]), ("(a (b) ", ["(", "letter", "nought", "figure"]),
            ("(a)", []), ("(a (b))", []), ("(a (", ["letter"]), ("(a (b", [")", " ", "letter"]),
        ]:
            for sort, sign in signs.items():
                if sort in fits:
                    whole = (before + sign).count("(") == (before + sign).count(")")
                    self.assertEqual(at(before + sign), None if whole else len(before) + 1, before + sign)
                else:
                    self.assertEqual(at(before + sign), len(before), before + sign)
                    self.assertEqual(at(before + sign + "a) (b"), len(before), before + sign)

    def test_blanks(self):
        for text, due in [("(a  b)", 3), ("(a )", 3), ("( a)", 1), ("(a (b ))", 6), ("(a ( b))", 4), ("(a) ", 3),
                          ("(a b )", 5), ("(a (b) )", 7), ("(a (b)(c))", 6), ("(a(b))", 2), ("(a b(c))", 4),
                          ("(a 1(c))", 4)]:
            self.assertEqual(at(text), due, text)

    def test_figures(self):
        for text, due in [("(a 01)", 4), ("(a 00)", 4), ("(a 007)", 4), ("(a " + "1" * 61 + ")", 63),
                          ("(a 1" + "0" * 60 + ")", 63), ("(a " + "1" * 5000 + ")", 63), ("(a " + "0" * 5000 + ")", 4),
                          ("(a 1b)", 4), ("(a b1)", 4), ("(1)", 1), ("(1 a)", 1), ("(a -1)", 3), ("(a +1)", 3),
                          ("(a 1.0)", 4), ("(a 1_0)", 4), ("(a 10 020)", 7)]:
            self.assertEqual(at(text), due, text)

    def test_words(self):
        for text, due in [("(abcdefghi)", 9), ("(a abcdefghi)", 11), ("(A)", 1), ("(aB)", 2), ("(a_)", 2), ("(a-b)", 2),
                          ("(a B)", 3), ("(a 'b)", 3), ("(a,b)", 2), ("(a\tb)", 2), ("(a\n)", 2), ("(a b\n", 4)]:
            self.assertEqual(at(text), due, text)

    def test_signs_that_count_as_figures_or_letters_elsewhere(self):
        for sign in "\u0661\u00b2\u00e9\u00df\u0131\uff41\uff11\u0430\u00aa\u2460\U0001d7d8\u00a0\u3000":
            self.assertEqual(at("(" + sign), 1)
            self.assertEqual(at("(a" + sign), 2)
            self.assertEqual(at("(a " + sign), 3)
            self.assertEqual(at("(a 1" + sign), 4)
            self.assertEqual(at(sign), 0)
            self.assertEqual(at("(a)" + sign), 3)

    def test_cut_at_every_place(self):
        for tree, text in TREES + [(("a", ("b", ("c", 12), "dd"), 0), "(a (b (c 12) dd) 0)")]:
            for many in range(len(text)):
                self.assertEqual(at(text[:many]), many, text[:many])

    def test_behind_the_last_bracket(self):
        for more in ["(a)", ")", " ", "a", "0", " (a)", "\n", "("]:
            self.assertEqual(at("(a (b))" + more), 7)

    def test_other_brackets(self):
        for text in ["[a]", "{a}", "<a>"]:
            self.assertEqual(at(text), 0)
        self.assertEqual(at("(a [b])"), 3)
        self.assertEqual(at("(a]"), 2)


if __name__ == "__main__":
    unittest.main()
