import unittest

from prooffruit import errors

FIELDS = {
    "NoText": ("at",),
    "NoNumber": ("name",),
    "NoGround": ("place", "word"),
    "NoProgram": ("place",),
    "NoYield": ("place",),
    "NoWorth": ("thing",),
    "NoPlace": ("place",),
    "Taken": ("name",),
    "Loose": ("names",),
    "NoBasis": ("label",),
    "NoKept": ("name",),
    "Unlike": ("saying",),
    "Ring": ("names",),
    "Stood": ("names",),
    "NoRow": ("row",),
    "TooMany": (),
    "NoDeed": (),
}

FIELD_VALUES = [0, -1, 10 ** 70, True, None, "", "x", "keep  x", (), (0, 2, 1), ("a", "b"), [], [("num", [0])]]


def deep():
    thing = ()
    for _ in range(299):
        thing = (thing,)
    return thing


class Errors(unittest.TestCase):
    def test_each_is_a_ground_error(self):
        self.assertEqual(errors.GroundError.__bases__, (ValueError,))
        for word in FIELDS:
            with self.subTest(word):
                self.assertEqual(getattr(errors, word).__bases__, (errors.GroundError,))

    def test_each_is_defined_there(self):
        for word in ["GroundError", *FIELDS]:
            made = getattr(errors, word)
            self.assertEqual((made.__module__, made.__name__), ("prooffruit.errors", word))

    def test_no_further_class(self):
        classes = [word for word, thing in vars(errors).items() if isinstance(thing, type)]
        self.assertEqual(sorted(classes), sorted(["GroundError", *FIELDS]))

    def test_none_is_caught_as_another(self):
        for word in FIELDS:
            made = getattr(errors, word)
            for other in FIELDS:
                self.assertEqual(issubclass(made, getattr(errors, other)), word == other)

    def test_fields_by_place(self):
        for word, fields in FIELDS.items():
            for thing in [*FIELD_VALUES, deep()]:
                told = [thing, "other"][:len(fields)]
                error = getattr(errors, word)(*told)
                self.assertEqual(vars(error), dict(zip(fields, told)))

    def test_fields_by_name(self):
        for word, fields in FIELDS.items():
            for thing in [*FIELD_VALUES, deep()]:
                told = dict(zip(fields, [thing, "other"]))
                self.assertEqual(vars(getattr(errors, word)(**told)), told)

    def test_fields_are_the_very_things(self):
        thing = [1, [2]]
        self.assertIs(errors.NoWorth(thing).thing, thing)

    def test_fields_are_needed(self):
        for word, fields in FIELDS.items():
            if fields:
                with self.assertRaises(TypeError):
                    getattr(errors, word)()

    def test_raised_and_caught(self):
        for word, fields in FIELDS.items():
            made = getattr(errors, word)
            told = ["a", "b"][:len(fields)]
            for caught in (made, errors.GroundError, ValueError):
                with self.assertRaises(caught) as held:
                    raise made(*told)
                self.assertIs(type(held.exception), made)
                self.assertEqual([getattr(held.exception, field) for field in fields], told)


if __name__ == "__main__":
    unittest.main()
