import unittest

from cardlines import errors

CLASSES = (
    ("BadPlace", ValueError, "part", "line"),
    ("BadText", ValueError, "text", "3.4"),
    ("BadRow", ValueError, "row", 0),
    ("Torn", ValueError, "at", 7),
    ("Broken", ValueError, "at", 100),
    ("BadEntry", ValueError, "number", 2),
    ("BadTurn", ValueError, "number", 3),
    ("NoCard", IndexError, "card", -1),
    ("NoDeed", LookupError, "many", 5),
    ("NoRoom", OverflowError, "card", 4),
)


class Errors(unittest.TestCase):
    def test_each_stands_straight_under_its_own_class(self):
        for name, above, field, worth in CLASSES:
            with self.subTest(name):
                self.assertEqual(getattr(errors, name).__bases__, (above,))

    def test_field_by_place_and_by_name(self):
        for name, above, field, worth in CLASSES:
            with self.subTest(name):
                made = getattr(errors, name)
                self.assertEqual(getattr(made(worth), field), worth)
                self.assertEqual(getattr(made(**{field: worth}), field), worth)

    def test_raised_and_shown(self):
        for name, above, field, worth in CLASSES:
            with self.subTest(name):
                made = getattr(errors, name)
                with self.assertRaises(made) as caught:
                    raise made(worth)
                self.assertIsInstance(caught.exception, above)
                self.assertIsInstance(str(caught.exception), str)
                self.assertEqual(getattr(caught.exception, field), worth)

    def test_field_is_needed(self):
        for name, above, field, worth in CLASSES:
            with self.subTest(name):
                with self.assertRaises(TypeError):
                    getattr(errors, name)()

    def test_there_are_just_these(self):
        own = [name for name, thing in vars(errors).items() if isinstance(thing, type)]
        self.assertEqual(sorted(own), sorted([row[0] for row in CLASSES]))


if __name__ == "__main__":
    unittest.main()
