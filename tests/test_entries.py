import itertools
import unittest

from cardlines.entries import entry_at, entry_bytes, is_entry
from cardlines.errors import Torn
from cardlines.figures import number_bytes, signed_bytes
from cardlines.places import Place
from tests.things import NO_NUMBERS, nested

MANY = (1, 16)
STEP = (-10 ** 6, 10 ** 6)
COLUMN = (0, 10 ** 4)
MORE = (1, 99)
BACK = (1, 15)
FORMS = (
    ("none", (MANY,)), ("same", (MANY,)), ("next", (MANY,)), ("line", (MANY, STEP)),
    ("part", (MANY, STEP, COLUMN, COLUMN)), ("long", (MANY, STEP, MORE, COLUMN, COLUMN)), ("copy", (MANY, BACK, STEP)),
)
KNOWN = (
    (("none", 1), [128]), (("none", 16), [143]), (("same", 1), [144]), (("same", 16), [159]),
    (("next", 1), [160]), (("next", 16), [175]),
    (("line", 1, 0), [176, 0]), (("line", 16, -1), [191, 1]), (("line", 2, 1), [177, 2]),
    (("line", 1, 1000000), [176, 64, 82, 104, 7]), (("line", 1, -1000000), [176, 127, 81, 104, 7]),
    (("part", 1, 0, 4, 5), [192, 0, 4, 5]), (("part", 16, -3, 10000, 10000), [207, 5, 80, 92, 2, 80, 92, 2]),
    (("long", 1, 0, 1, 0, 0), [208, 0, 0, 0, 0]), (("long", 16, 2, 99, 64, 10000), [223, 4, 98, 1, 64, 1, 80, 92, 2]),
    (("copy", 1, 1, 0), [224, 0, 0]), (("copy", 16, 15, -64), [239, 14, 127, 1]),
)


def at_bounds():
    """Entries of all seven words with each number at its bounds and beside them."""
    for word, bounds in FORMS:
        spots = [sorted({low, low + 1, (low + high) // 2, high - 1, high}) for low, high in bounds]
        for numbers in itertools.product(*spots):
            yield (word, *numbers)


class IsEntry(unittest.TestCase):
    def test_all_seven_within_their_bounds(self):
        for entry in at_bounds():
            self.assertIs(is_entry(entry), True)
        for entry, codes in KNOWN:
            self.assertIs(is_entry(thing=entry), True)
        self.assertIs(is_entry(("part", 1, 0, 10000, 10000)), True)
        self.assertIs(is_entry(("long", 1, 0, 1, 9, 3)), True)

    def test_beyond_each_bound(self):
        for entry, (word, bounds) in self.with_bounds():
            for place, (low, high) in enumerate(bounds, start=1):
                for number in (low - 1, high + 1, low - 10 ** 7, high + 10 ** 30):
                    self.assertIs(is_entry((*entry[:place], number, *entry[place + 1:])), False)

    def test_other_things_in_the_place_of_numbers(self):
        for entry, (word, bounds) in self.with_bounds():
            for place in range(1, len(entry)):
                for thing in (*NO_NUMBERS, None, "1", (1,), [1]):
                    self.assertIs(is_entry((*entry[:place], thing, *entry[place + 1:])), False)

    def test_too_few_and_too_many(self):
        for entry, form in self.with_bounds():
            for many in range(len(entry)):
                self.assertIs(is_entry(entry[:many]), False)
            for thing in (0, 1, None, "", ()):
                self.assertIs(is_entry((*entry, thing)), False)
                self.assertIs(is_entry((thing, *entry)), False)

    def test_other_words(self):
        for word in ("", "None", "NONE", "none ", " none", "nones", "lines", "-", "put", "Copy", "segment", "none\n"):
            for numbers in ((1,), (1, 0), (1, 1, 0), (1, 0, 0, 0), (1, 0, 1, 0, 0)):
                self.assertIs(is_entry((word, *numbers)), False)
        for thing in (*NO_NUMBERS, None, 1, 0, ["none"], ("none",), Place(3), nested("none", 4)):
            self.assertIs(is_entry((thing, 1)), False)

    def test_other_kinds(self):
        for thing in (*NO_NUMBERS, None, 0, 1, 128, "none", "none 1", ["none", 1], [], [()], Place()):
            self.assertIs(is_entry(thing), False)
        for entry, form in self.with_bounds():
            self.assertIs(is_entry(list(entry)), False)
            self.assertIs(is_entry(str(entry)), False)
            for deep in range(1, 6):
                self.assertIs(is_entry(nested(entry, deep)), False)
                for place in range(len(entry)):
                    self.assertIs(is_entry((*entry[:place], nested(entry[place], deep), *entry[place + 1:])), False)

    def with_bounds(self):
        for word, bounds in FORMS:
            yield (word, *[min(2, high) for low, high in bounds]), (word, bounds)


class Bytes(unittest.TestCase):
    def test_known(self):
        for entry, codes in KNOWN:
            self.assertEqual(entry_bytes(entry), codes)
            self.assertEqual(entry_bytes(entry=entry), codes)
            self.assertEqual(entry_at(codes, 0), (entry, len(codes)))

    def test_kinds_that_are_told(self):
        self.assertIs(type(entry_bytes(("line", 1, 0))), list)
        told = entry_at((176, 0), 0)
        self.assertIs(type(told), tuple)
        self.assertIs(type(told[0]), tuple)

    def test_at_all_bounds(self):
        for entry in at_bounds():
            codes = entry_bytes(entry)
            self.assertEqual(codes, self.by_the_document(entry))
            self.assertEqual(entry_at(codes, 0), (entry, len(codes)))

    def test_from_any_place_whatever_stands_around(self):
        for ahead, behind in itertools.product(([], [0], [255, 64], [176]), ([], [0], [64], [128], [255])):
            for entry, codes in KNOWN:
                row = tuple(ahead + codes + behind)
                self.assertEqual(entry_at(at=len(ahead), codes=row), (entry, len(ahead) + len(codes)))

    def by_the_document(self, entry):
        word, many, *numbers = entry
        place = [form[0] for form in FORMS].index(word)
        codes = [128 + 16 * place + many - 1]
        if word in ("line", "part", "long"):
            codes += signed_bytes(numbers.pop(0))
        if word in ("long", "copy"):
            codes += number_bytes(numbers.pop(0) - 1)
        if word == "copy":
            codes += signed_bytes(numbers.pop(0))
        for number in numbers:
            codes += number_bytes(number)
        return codes


class Refused(unittest.TestCase):
    def torn(self, codes, at, wanted):
        for row in (codes, tuple(codes)):
            with self.assertRaises(Torn) as caught:
                entry_at(row, at)
            self.assertEqual(caught.exception.at, wanted)

    def test_no_head(self):
        self.torn([], 0, 0)
        self.torn([176, 0], 2, 2)
        for code in (*range(128), *range(240, 256)):
            self.torn([code], 0, 0)
            self.torn([128, code, 128], 1, 1)
        for code in range(128, 176):
            self.assertEqual(entry_at([code], 0)[1], 1)

    def test_every_byte_that_ends_too_early(self):
        for entry, codes in KNOWN:
            for many in range(1, len(codes)):
                self.torn(codes[:many], 0, many)
                self.torn([0, 255] + codes[:many], 2, 2 + many)
                self.torn(codes[:many] + [200], 0, many)
                self.torn(codes[:many] + [255], 0, many)

    def test_bytes_of_numbers_that_cannot_stand(self):
        self.torn([176, 64, 0], 0, 2)
        self.torn([176, 64, 64, 64, 64], 0, 4)
        self.torn([192, 0, 65, 0, 5], 0, 3)
        self.torn([192, 0, 1, 128], 0, 3)
        self.torn([208, 0, 0, 64, 64, 64, 127], 0, 6)
        self.torn([224, 0, 65, 65, 0], 0, 4)

    def test_numbers_beyond_their_bounds(self):
        for head in (176, 192, 208):
            for step in (10 ** 6 + 1, -10 ** 6 - 1, 8388607, -8388608):
                self.torn([head] + signed_bytes(step) + [0, 0, 0, 0], 0, 1)
        for number in (10001, 16383, 16777215):
            wide = number_bytes(number)
            self.torn([192, 0] + wide + [0], 0, 2)
            self.torn([192, 0, 5] + wide, 0, 3)
            self.torn([208, 0, 0] + wide + [0], 0, 3)
            self.torn([208, 0, 0, 64, 1] + wide, 0, 5)
        for number in (99, 100, 16777215):
            self.torn([208, 64, 1] + number_bytes(number) + [0, 0], 0, 3)
        for number in (15, 16, 63, 64, 16777215):
            self.torn([7, 224] + number_bytes(number) + [0], 1, 2)
        for shift in (10 ** 6 + 1, -10 ** 6 - 1):
            self.torn([224, 0] + signed_bytes(shift), 0, 2)

    def test_number_by_number(self):
        beyond = number_bytes(10001)
        self.torn([192] + signed_bytes(10 ** 6 + 1) + [128], 0, 1)
        self.torn([192, 0] + beyond, 0, 2)
        self.torn([192, 0] + beyond + [200], 0, 2)
        self.torn([208, 0, 127, 1, 64, 0], 0, 2)
        self.torn([224, 15, 255], 0, 1)
        self.torn([224, 14, 255], 0, 2)

    def test_all_sorts_of_bytes(self):
        """What is read is what is written of what was read, and nothing else is refused."""
        right = {tuple(entry_bytes(entry)) for entry in self.small_entries()}
        for head in (128, 159, 176, 192, 224, 240):
            for many in range(4):
                for codes in itertools.product((0, 1, 14, 15, 64, 65, 128), repeat=many):
                    row = (head, *codes)
                    starts = [row[:end] for end in range(1, len(row) + 1) if row[:end] in right]
                    try:
                        entry, behind = entry_at(row, 0)
                    except Torn:
                        self.assertEqual(starts, [])
                        continue
                    self.assertEqual(starts, [row[:behind]])
                    self.assertEqual(tuple(entry_bytes(entry)), row[:behind])

    def small_entries(self):
        """All entries that bytes of that test may tell."""
        for many in range(1, 17):
            yield ("none", many)
            yield ("same", many)
        for step in range(-33000, 33000):
            yield ("line", 1, step)
        for back, shift in itertools.product((1, 2, 15), range(-600, 600)):
            yield ("copy", 1, back, shift)
        for step, begin, wide in itertools.product(range(-10, 10), range(20), range(20)):
            yield ("part", 1, step, begin, wide)


if __name__ == "__main__":
    unittest.main()
