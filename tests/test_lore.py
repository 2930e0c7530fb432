"""Point 24: the lore."""

import unittest

from prooffruit.detours import detours
from prooffruit.grounds import is_plain
from prooffruit.judge import grounded
from prooffruit.lore import lore
from prooffruit.putting import open_names
from prooffruit.runs import run
from prooffruit.sayings import put_in
from prooffruit.sight import bears
from prooffruit.straight import straight
from prooffruit.yields import yielded

B0, B1, B2, B3 = [("bound", number) for number in range(4)]
NOUGHT = ("num", 0)

SAYINGS = {
    "parted": ("all", ("or", ("same", B0, NOUGHT), ("some", ("same", B1, ("next", B0))))),
    "halves": ("all", ("some", ("or", ("same", B1, ("plus", B0, B0)), ("same", B1, ("next", ("plus", B0, B0)))))),
    "less": ("all", ("all", ("or", ("some", ("same", ("plus", B2, B0), B1)),
                             ("some", ("same", ("plus", B1, B0), B2))))),
    "rest": ("all", ("all", ("some", ("some", ("and", ("same", B3, ("plus", ("times", ("next", B2), B1), B0)),
                                              ("some", ("same", ("plus", B1, B0), B3))))))),
}


class Lore(unittest.TestCase):
    def test_grounds(self):
        told = lore()
        self.assertIsInstance(told, dict)
        self.assertEqual(sorted(told), ["halves", "less", "parted", "rest"])
        for word, saying in SAYINGS.items():
            self.assertEqual(grounded(told[word]), (saying, ()))
            self.assertEqual(open_names(told[word]), [])
            self.assertIs(is_plain(told[word]), True)

    def test_another_dict_each_time(self):
        told = lore()
        told["parted"] = None
        told["more"] = None
        del told["rest"]
        self.assertEqual(sorted(lore()), ["halves", "less", "parted", "rest"])
        self.assertEqual(grounded(lore()["parted"]), (SAYINGS["parted"], ()))

    def told(self, word, *numbers):
        ground = lore()[word]
        program, saying = yielded(ground), SAYINGS[word]
        for number in numbers:
            program, saying = ("call", program, ("num", number)), put_in(saying[1], ("num", number))
            ground = ("at", ground, ("num", number))
        worth = run(program, {})
        self.assertIs(bears(saying, worth), True)
        self.assertEqual(run(yielded(ground), {}), worth)
        return worth

    def test_parted(self):
        self.assertEqual(self.told("parted", 0), ("this", None))
        for number in (1, 2, 9, 100):
            self.assertEqual(self.told("parted", number), ("that", number - 1))

    def test_halves(self):
        for number in (0, 1, 2, 3, 8, 9, 51):
            self.assertEqual(self.told("halves", number), (number // 2, ("that" if number % 2 else "this", None)))

    def test_less(self):
        for one in (0, 1, 2, 5, 11):
            for other in (0, 1, 2, 5, 11):
                side, number = self.told("less", one, other)
                self.assertEqual(number, abs(one - other))
                if one != other:
                    self.assertEqual(side, "this" if one < other else "that")

    def test_rest(self):
        for one in (0, 1, 2, 3, 7, 24):
            for other in (0, 1, 2, 3, 7, 24):
                times, left = divmod(one, other + 1)
                self.assertEqual(self.told("rest", one, other), (times, (left, other - left)))

    def test_cleared_of_detours(self):
        for word, numbers in [("parted", (3,)), ("halves", (3,)), ("less", (1, 2)), ("less", (2, 1)), ("rest", (3, 1))]:
            ground = lore()[word]
            for number in numbers:
                ground = ("at", ground, ("num", number))
            told = straight(ground, limit=5000)
            self.assertEqual(detours(told), [])
            self.assertEqual(run(yielded(told), {}), self.told(word, *numbers))
            self.assertIn(told[0], ("such", "this", "that"))


if __name__ == "__main__":
    unittest.main()
