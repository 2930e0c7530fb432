"""Points 2, 3 and 7 over the whole program: arguments by name, what is told anew, what is greater."""

import unittest

from prooffruit import errors
from prooffruit.book import Book
from prooffruit.desk import Desk
from prooffruit.detours import detours, without
from prooffruit.doubled import doubled, doubled_ground, stable
from prooffruit.errors import GroundError, NoGround
from prooffruit.freed import freed
from prooffruit.grounds import grounds_of, is_plain
from prooffruit.judge import grounded
from prooffruit.kinds import has_from, is_kind, kind_of
from prooffruit.lore import lore
from prooffruit.programs import judged
from prooffruit.putting import alike, named, open_names, supplied
from prooffruit.runs import is_worth, run
from prooffruit.sayings import is_body, is_saying, names_in, put_for, put_in, taken
from prooffruit.settled import settled, shown_by, sought
from prooffruit.sight import bears, is_flat, is_seen, is_true
from prooffruit.straight import straight
from prooffruit.terms import is_term, is_word, worth
from prooffruit.texts import read, written
from prooffruit.yields import least, yielded
from tests.contraries import by_contraries, given
from tests.making import Maker
from tests.samples import B0, NO, NOUGHT, ONE, TRUE, X, nested, tower

SAME = ("reckoned", ONE, ONE)
SOME = ("some", ("same", B0, ONE))
SHOWN = ("such", SOME[1], ONE, SAME)
DETOUR = ("first", ("both", SAME, SHOWN))
RULE = ("for", "x", ("such", ("same", B0, X), X, ("equal", X)))

# Each call of the interface, its arguments by the names shown, in another order where there are more; what it tells.
CALLS = [
    (is_word, {"thing": "a"}, True), (is_term, {"thing": X}, True), (worth, {"numbers": {"x": 2}, "term": X}, 2),
    (is_saying, {"thing": TRUE}, True), (is_body, {"thing": SOME[1]}, True), (names_in, {"thing": X}, ["x"]),
    (put_in, {"term": X, "body": SOME[1]}, ("same", X, ONE)),
    (taken, {"name": "x", "saying": ("same", X, ONE)}, SOME[1]),
    (put_for, {"term": ONE, "name": "x", "saying": ("same", X, ONE)}, ("same", ONE, ONE)),
    (is_plain, {"ground": SAME}, True), (grounds_of, {"ground": SHOWN}, [SAME]),
    (grounded, {"thing": SHOWN}, (SOME, ())),
    (is_kind, {"thing": ("number",)}, True), (kind_of, {"saying": SOME}, ("number",)),
    (judged, {"thing": X}, (("number",), ("x",), ())), (is_worth, {"thing": 1, "kind": ("number",)}, True),
    (run, {"limit": 1, "numbers": {"x": 3}, "program": X}, 3), (run, {"numbers": {}, "program": ONE}, 1),
    (yielded, {"ground": SHOWN}, ONE), (least, {"kind": ("number",)}, NOUGHT), (is_flat, {"saying": TRUE}, True),
    (is_seen, {"saying": SOME}, True), (is_true, {"saying": TRUE}, True), (bears, {"thing": 1, "saying": SOME}, True),
    (open_names, {"ground": ("equal", X)}, ["x"]), (alike, {"other": SAME, "one": SAME}, True),
    (named, {"term": ONE, "name": "x", "ground": ("equal", X)}, ("equal", ONE)),
    (supplied, {"other": SAME, "label": "u", "ground": given("u", ("same", ONE, ONE))}, SAME),
    (detours, {"ground": DETOUR}, [()]), (without, {"place": (), "ground": DETOUR}, SAME),
    (straight, {"limit": 1, "ground": DETOUR}, SAME), (straight, {"ground": DETOUR}, SAME),
    (doubled, {"wish": SOME, "saying": NO}, SOME), (written, {"tree": ONE}, "(num 1)"),
    (read, {"text": "(num 1)"}, ONE),
]

# Of these any that fits is told: what a ground that is told grounds.
GROUNDS = [
    (sought, {"most": 3, "saying": SOME}, SOME), (sought, {"saying": SOME}, SOME),
    (shown_by, {"worth": 1, "saying": SOME}, SOME), (freed, {"ground": by_contraries(SHOWN)}, SOME),
    (stable, {"wish": SOME, "saying": NO}, ("if", ("if", ("if", SOME, SOME), SOME), SOME)),
    (doubled_ground, {"wish": NO, "ground": ("equal", ONE)}, doubled(("same", ONE, ONE), NO)),
]


class Handed(unittest.TestCase):
    def test_arguments_by_name(self):
        for told, arguments, due in CALLS:
            self.assertEqual(told(**arguments), due, told)
        for told, arguments, due in GROUNDS:
            self.assertEqual(grounded(told(**arguments)), (due, ()), told)
        word, ground = settled(saying=TRUE)
        self.assertEqual((word, grounded(ground)), ("yes", (TRUE, ())))

    def test_behind_the_star_by_name_alone(self):
        for told, things in [(run, (ONE, {}, 3)), (sought, (SOME, 3)), (straight, (SAME, 3))]:
            with self.assertRaises(TypeError):
                told(*things)

    def test_lists_and_dicts_are_new_ones(self):
        for told, things in [(names_in, (X,)), (grounds_of, (SHOWN,)), (open_names, (("equal", X),)),
                             (detours, (DETOUR,)), (lore, ())]:
            first, second = told(*things), told(*things)
            self.assertEqual(first, second)
            self.assertIsNot(first, second)
            first.clear()
            self.assertEqual(told(*things), second)

    def test_nothing_handed_in_is_changed(self):
        numbers = {"x": 1}
        worth(X, numbers)
        run(("call", ("for", "x", X), X), numbers)
        self.assertEqual(numbers, {"x": 1})
        place = [0]
        with self.assertRaises(errors.NoPlace) as held:
            without(DETOUR, place)
        self.assertEqual(place, [0])
        self.assertIs(held.exception.place, place)
        things = [["given", "u", NO], ("both", [SAME], SAME)]
        for thing in things:
            before = repr(thing)
            for told in (grounded, detours, straight, freed, lambda thing: Book().keep("a", thing)):
                with self.assertRaises(NoGround):
                    told(thing)
            self.assertEqual(repr(thing), before)

    def test_each_refusal_by_its_fields(self):
        for word, fields in {"NoText": ["at"], "NoNumber": ["name"], "NoGround": ["place", "word"],
                             "NoProgram": ["place"], "NoYield": ["place"], "NoWorth": ["thing"], "NoPlace": ["place"],
                             "Taken": ["name"],
                             "Loose": ["names"], "NoBasis": ["label"], "NoKept": ["name"], "Unlike": ["saying"],
                             "Ring": ["names"], "Stood": ["names"], "NoRow": ["row"], "TooMany": [],
                             "NoDeed": []}.items():
            made = getattr(errors, word)
            told = made(**{field: at for at, field in enumerate(reversed(fields))})
            self.assertEqual(made.__bases__, (GroundError,))
            self.assertEqual([getattr(told, field) for field in reversed(fields)], list(range(len(fields))))


class Greater(unittest.TestCase):
    def test_by_whichever_call(self):
        book = Book()
        book.keep("a", SAME)
        wide = SAME
        for _ in range(10):
            wide = ("put", wide, ("same", B0, ONE), wide)
        self.assertEqual(grounded(wide[1])[0], ("same", ONE, ONE))
        for thing in [tower("twice", SAME, 101), tower("down", ("equal", X), 150), wide, nested(SAME, 290, tuple),
                      # What is wrong else is told only of one that isn't too great.
                      tower("twice", ("uses", SAME, SAME), 100), ("uses", ("equal", X), wide)]:
            for told in [grounded, yielded, lambda thing: named(thing, "x", ONE), lambda thing: named(thing, "k", ONE),
                         lambda thing: supplied(thing, "u", SAME), lambda thing: supplied(SAME, "u", thing), detours,
                         lambda thing: without(thing, ()), lambda thing: without(thing, None), straight,
                         lambda thing: straight(thing, limit=0), lambda thing: doubled_ground(thing, NO), freed,
                         lambda thing: book.keep("b", thing), lambda thing: book.mend("a", thing)]:
                with self.assertRaises(NoGround) as held:
                    told(thing)
                self.assertEqual((held.exception.place, held.exception.word), ((), "form"))

    def test_a_hundred_within_one_another(self):
        last = SAME
        for _ in range(99):
            last = ("put", SAME, ("same", B0, ONE), last)
        self.assertEqual(grounded(last), (("same", ONE, ONE), ()))
        self.assertEqual((detours(last), straight(last)), ([], last))
        desk = Desk()
        self.assertEqual(desk.say("keep a " + written(last)), "(same (num 1) (num 1))")
        self.assertEqual(desk.book.opened("a"), last)
        self.assertIs(is_plain(doubled_ground(last, NO)), True)


class Promise(unittest.TestCase):
    def test_detours_taken_away(self):
        """The same saying, and the same worths at all numbers."""
        done = 0
        for seed in range(150):
            maker = Maker(seed + 3000)
            ground = maker.ground(size=3, detours=3)
            kind, _, knowns = judged(yielded(ground))
            if has_from(kind) or knowns or kind == ("none",):
                continue
            for place in detours(ground):
                told = without(ground, place)
                self.assertEqual(grounded(told)[0], grounded(ground)[0])
                for number in (0, 1, 3):
                    numbers = {name: number + at for at, name in enumerate(open_names(ground))}
                    self.assertEqual(run(yielded(told), numbers), run(yielded(ground), numbers))
                done += 1
        self.assertGreater(done, 100)

    def test_some_number_shows_the_very_one(self):
        done = 0
        for seed in range(200):
            maker = Maker(seed + 4000)
            ground = maker.climb((), 2)
            for _ in range(2):
                ground = maker.detour(ground, set(), 2)
            for name in open_names(ground):
                ground = named(ground, name, ("num", maker.chance.randrange(3)))
            saying = grounded(ground)[0]
            self.assertEqual(saying[0], "some")
            told = straight(ground, limit=2000)
            self.assertEqual(told[0], "such")
            self.assertEqual(worth(told[2], {}), run(yielded(ground), {}))
            done += 1
        self.assertEqual(done, 200)

    def test_by_contraries_led_to_a_plain_one(self):
        for seed in range(80):
            maker = Maker(seed + 6000, plain=seed % 2 > 0)
            ground = maker.climb((), 2)
            for _ in range(2):
                ground = by_contraries(maker.detour(ground, set(), 1), maker.chance.choice("uvwk"))
            for name in open_names(ground):
                ground = ("for", name, ground)
            saying = grounded(ground)[0]
            told = freed(ground)
            self.assertEqual((grounded(told), is_plain(told)), ((saying, ()), True))
            program = yielded(told)
            while saying[0] == "all":
                number = maker.chance.randrange(5)
                program, saying = ("call", program, ("num", number)), put_in(saying[1], ("num", number))
            self.assertIs(bears(saying, run(program, {}, limit=10 ** 6)), True)


if __name__ == "__main__":
    unittest.main()
