import itertools
import unittest

from cardlines.errors import BadPlace
from cardlines.places import Place
from tests.things import NO_NUMBERS, fields, forms, nested

FIELDS = ("line", "last", "begin", "end")


def part_of(*given, **named):
    """The field part of the refusal, None where a Place is made."""
    try:
        Place(*given, **named)
    except BadPlace as refused:
        return refused.part
    return None


def within(thing, low, high):
    return type(thing) is int and low <= thing <= high


def wrong_by_the_document(line, last, begin, end):
    """Point [4], word by word: each of the four is asked whether it may stand behind those ahead of it."""
    nowhere = line is None
    if not (nowhere or within(line, 1, 1000000)):
        return "line"
    if not (last is None or not nowhere and within(last, line, line + 99) and last <= 1000000):
        return "last"
    several = not nowhere and last is not None and last != line
    if begin is None:
        if several:
            return "begin"
        return "end" if end is not None else None
    if nowhere or not within(begin, 0, 10000):
        return "begin"
    if not within(end, 0, 10000) or not several and end < begin:
        return "end"
    return None


class Made(unittest.TestCase):
    def told(self, place, *wanted):
        self.assertEqual(fields(place), wanted)

    def test_nowhere(self):
        self.told(Place(), None, None, None, None)
        self.told(Place(None), None, None, None, None)
        self.told(Place(None, None, begin=None, end=None), None, None, None, None)
        self.told(Place(end=None, last=None, begin=None, line=None), None, None, None, None)

    def test_line(self):
        for place in (Place(3), Place(3, 3), Place(line=3), Place(last=3, line=3), Place(3, None),
                      Place(3, begin=None, end=None), Place(end=None, line=3, begin=None, last=None)):
            self.told(place, 3, 3, None, None)

    def test_part_of_one_line(self):
        for place in (Place(3, begin=4, end=9), Place(3, 3, begin=4, end=9), Place(end=9, begin=4, line=3),
                      Place(3, None, end=9, begin=4), Place(begin=4, last=3, end=9, line=3)):
            self.told(place, 3, 3, 4, 9)

    def test_part_of_several_lines(self):
        for place in (Place(3, 5, begin=4, end=9), Place(3, end=9, last=5, begin=4),
                      Place(begin=4, end=9, last=5, line=3)):
            self.told(place, 3, 5, 4, 9)
        self.told(Place(3, 5, begin=9, end=4), 3, 5, 9, 4)

    def test_bounds(self):
        self.told(Place(1), 1, 1, None, None)
        self.told(Place(10 ** 6), 10 ** 6, 10 ** 6, None, None)
        self.told(Place(1, begin=0, end=0), 1, 1, 0, 0)
        self.told(Place(1, begin=10 ** 4, end=10 ** 4), 1, 1, 10 ** 4, 10 ** 4)
        self.told(Place(1, 100, begin=0, end=10 ** 4), 1, 100, 0, 10 ** 4)
        self.told(Place(1, 100, begin=10 ** 4, end=0), 1, 100, 10 ** 4, 0)
        self.told(Place(999901, 10 ** 6, begin=0, end=0), 999901, 10 ** 6, 0, 0)
        self.told(Place(999950, 10 ** 6, begin=0, end=0), 999950, 10 ** 6, 0, 0)

    def test_columns_by_name_alone(self):
        with self.assertRaises(TypeError):
            Place(3, 3, 4, 9)
        with self.assertRaises(TypeError):
            Place(3, 3, 4, end=9)


class Refused(unittest.TestCase):
    def test_line(self):
        for line in (*NO_NUMBERS, 0, -1, 10 ** 6 + 1, -10 ** 6, 10 ** 30):
            self.assertEqual(part_of(line), "line")
            self.assertEqual(part_of(line=line, last=7, begin="x", end=None), "line")
        for deep in range(1, 7):
            self.assertEqual(part_of(nested(3, deep)), "line")

    def test_last(self):
        for last in (*NO_NUMBERS, 0, 1, 2, -3, 103, 10 ** 6):
            self.assertEqual(part_of(3, last, begin=0, end=0), "last")
            self.assertEqual(part_of(3, last), "last")
            self.assertEqual(part_of(3, last, begin="x", end=()), "last")
        self.assertEqual(part_of(3, 102, begin=0, end=0), None)
        self.assertEqual(part_of(10 ** 6, 10 ** 6 + 1, begin=0, end=0), "last")
        self.assertEqual(part_of(999950, 10 ** 6 + 1, begin=0, end=0), "last")

    def test_begin(self):
        for begin in (*NO_NUMBERS, -1, 10 ** 4 + 1, 10 ** 6):
            for last in (None, 3, 5):
                self.assertEqual(part_of(3, last, begin=begin, end=10 ** 4), "begin")
                self.assertEqual(part_of(3, last, begin=begin), "begin")
                self.assertEqual(part_of(3, last, begin=begin, end="x"), "begin")
        self.assertEqual(part_of(3, 5), "begin")
        self.assertEqual(part_of(3, 5, end=4), "begin")
        self.assertEqual(part_of(3, 5, end="x"), "begin")

    def test_end(self):
        for end in (*NO_NUMBERS, -1, 10 ** 4 + 1, 10 ** 6):
            for last in (None, 3, 5):
                self.assertEqual(part_of(3, last, begin=0, end=end), "end")
        for last in (None, 3):
            self.assertEqual(part_of(3, last, begin=4), "end")
            self.assertEqual(part_of(3, last, end=4), "end")
            self.assertEqual(part_of(3, last, end="x"), "end")
            self.assertEqual(part_of(3, last, begin=4, end=3), "end")
            self.assertEqual(part_of(3, last, begin=10 ** 4, end=9999), "end")
        self.assertEqual(part_of(3, 5, begin=4), "end")

    def test_nowhere_with_something(self):
        for thing in (*NO_NUMBERS, 0, 3):
            self.assertEqual(part_of(None, thing), "last")
            self.assertEqual(part_of(None, thing, begin=1, end=1), "last")
            self.assertEqual(part_of(begin=thing), "begin")
            self.assertEqual(part_of(begin=thing, end=thing), "begin")
            self.assertEqual(part_of(end=thing), "end")

    def test_all_sorts_of_things_at_once(self):
        lines = (None, True, False, "3", [3], (3,), Place(3), 0, 1, 3, 5, 999950, 10 ** 6, 10 ** 6 + 1)
        lasts = (*lines, 102, 103, 104, 999949)
        columns = (None, True, False, "4", [4], (4,), Place(4), -1, 0, 4, 10 ** 4, 10 ** 4 + 1)
        for given in itertools.product(lines, lasts, columns, columns):
            line, last, begin, end = given
            part = part_of(line, last, begin=begin, end=end)
            if part != wrong_by_the_document(*given):
                self.fail(f"{given} told {part}")


class Asked(unittest.TestCase):
    def test_has(self):
        for line in range(1, 12):
            self.assertIs(Place().has(line), False)
            self.assertIs(Place(5).has(line), line == 5)
            self.assertIs(Place(5, begin=1, end=2).has(line=line), line == 5)
            self.assertIs(Place(5, 8, begin=1, end=2).has(line), line in (5, 6, 7, 8))
        self.assertIs(Place(1).has(0), False)
        self.assertIs(Place(10 ** 6).has(10 ** 6), True)

    def test_moved(self):
        self.assertEqual(fields(Place(3).moved(4)), (7, 7, None, None))
        self.assertEqual(fields(Place(3).moved(by=-2)), (1, 1, None, None))
        self.assertEqual(fields(Place(3).moved(0)), (3, 3, None, None))
        self.assertEqual(fields(Place(3, begin=4, end=9).moved(2)), (5, 5, 4, 9))
        self.assertEqual(fields(Place(3, 5, begin=9, end=4).moved(10)), (13, 15, 9, 4))

    def test_moved_nowhere(self):
        for by in (-10 ** 6, -1, 0, 1, 10 ** 6):
            self.assertEqual(fields(Place().moved(by)), (None, None, None, None))

    def test_moved_just_to_the_bounds(self):
        self.assertEqual(fields(Place(10 ** 6).moved(-999999)), (1, 1, None, None))
        self.assertEqual(fields(Place(1).moved(999999)), (10 ** 6, 10 ** 6, None, None))
        self.assertEqual(fields(Place(3, 5, begin=1, end=2).moved(-2)), (1, 3, 1, 2))
        self.assertEqual(fields(Place(3, 5, begin=1, end=2).moved(999995)), (999998, 10 ** 6, 1, 2))

    def test_moved_beyond_the_bounds(self):
        long = Place(3, 5, begin=1, end=2)
        for place, by, part in ((Place(3), -3, "line"), (Place(3), -10 ** 6, "line"), (Place(3), 999998, "line"),
                                (Place(10 ** 6), 1, "line"), (Place(1), -1, "line"), (long, -3, "line"),
                                (long, -10 ** 6, "line"), (long, 999996, "last"), (long, 999997, "last"),
                                (long, 999998, "line"), (long, 10 ** 6, "line")):
            with self.assertRaises(BadPlace) as caught:
                place.moved(by)
            self.assertEqual(caught.exception.part, part)
            with self.assertRaises(BadPlace) as caught:
                place.moved(by=by)
            self.assertEqual(caught.exception.part, part)

    def test_len_and_bool(self):
        for place, many in ((Place(), 0), (Place(3), 1), (Place(3, begin=4, end=9), 1),
                            (Place(3, 4, begin=4, end=9), 2), (Place(3, 102, begin=4, end=9), 100)):
            self.assertEqual(len(place), many)
            self.assertIs(bool(place), many > 0)

    def test_equal_by_all_four_fields(self):
        made = forms()[:120]
        for one in made:
            for other in made:
                same = fields(one) == fields(other)
                self.assertIs(one == other, same)
                self.assertIs(one != other, not same)
        self.assertEqual(Place(3), Place(3, 3))
        self.assertNotEqual(Place(3), Place(3, begin=0, end=0))

    def test_equal_to_nothing_else(self):
        for place in (Place(), Place(3), Place(3, begin=4, end=9), Place(3, 5, begin=4, end=9)):
            for other in (None, True, False, 0, 3, str(place), repr(place), fields(place), list(fields(place)),
                          (3,), [], [place], (place,)):
                self.assertIs(place == other, False)
                self.assertIs(other == place, False)
                self.assertIs(place != other, True)

    def test_str_and_repr(self):
        for place, text in ((Place(), "-"), (Place(3), "3"), (Place(10 ** 6), "1000000"),
                            (Place(3, begin=4, end=9), "3.4-9"), (Place(3, begin=0, end=0), "3.0-0"),
                            (Place(3, 5, begin=4, end=9), "3.4-5.9"), (Place(3, 4, begin=9, end=0), "3.9-4.0")):
            self.assertEqual(str(place), text)
            self.assertEqual(repr(place), f"Place({text})")

    def test_stays_as_it_is(self):
        for place in forms()[:150]:
            ahead = fields(place)
            place.has(3)
            place.moved(0)
            try:
                place.moved(-10 ** 6)
            except BadPlace:
                pass
            len(place), bool(place), str(place), repr(place), place == Place(3), place != Place(3)
            self.assertEqual(fields(place), ahead)


if __name__ == "__main__":
    unittest.main()
