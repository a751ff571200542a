import random
import unittest

from cardlines.entries import is_entry
from cardlines.errors import BadEntry
from cardlines.leading import COPIES, HEADS, MOST, led, line_behind
from cardlines.places import Place
from tests.document import led_by_the_document

NOWHERE = Place()


def lines(*numbers):
    return [Place(number) for number in numbers]


class Names(unittest.TestCase):
    def test_names(self):
        self.assertEqual((COPIES, HEADS, MOST), ("copies", "heads", 16))


class Led(unittest.TestCase):
    def leads(self, entries, places, behind, **ahead):
        self.assertTrue(all([is_entry(entry) for entry in entries]))
        for row in (list(entries), tuple(entries)):
            told = led(row, **ahead)
            self.assertIs(type(told), list)
            self.assertEqual(told, places)
            self.assertEqual(line_behind(row, **ahead), behind)
            self.assertEqual(led(entries=row, **ahead), places)
            self.assertEqual(line_behind(entries=row, **ahead), behind)

    def test_no_entries(self):
        self.leads([], [], 0)
        self.leads([], [], 7, line=7)
        self.leads([], [], 10 ** 6, line=10 ** 6)

    def test_none(self):
        self.leads([("none", 1)], [NOWHERE], 0)
        self.leads([("none", 16)], [NOWHERE] * 16, 5, line=5)
        self.leads([("line", 1, 3), ("none", 2), ("next", 1)], lines(3) + [NOWHERE] * 2 + lines(4), 4)

    def test_same(self):
        part = Place(5, begin=2, end=3)
        long = Place(5, 7, begin=2, end=3)
        self.leads([("line", 1, 3), ("same", 3)], lines(3, 3, 3, 3), 3)
        self.leads([("none", 1), ("same", 2)], [NOWHERE] * 3, 9, line=9)
        self.leads([("line", 1, 4), ("none", 1), ("same", 1), ("next", 1)], lines(4) + [NOWHERE] * 2 + lines(5), 5)
        self.leads([("part", 1, 5, 2, 1), ("same", 1)], [part, part], 5)
        self.leads([("long", 1, 5, 2, 2, 3), ("same", 16), ("next", 1)], [long] * 17 + lines(6), 6)

    def test_next(self):
        self.leads([("next", 1)], lines(1), 1)
        self.leads([("next", 3)], lines(8, 8, 8), 8, line=7)
        self.leads([("next", 2), ("next", 1), ("next", 2)], lines(1, 1, 2, 3, 3), 3)

    def test_line(self):
        self.leads([("line", 1, 5)], lines(5), 5)
        self.leads([("line", 3, 5)], lines(12, 12, 12), 12, line=7)
        self.leads([("line", 1, 5), ("line", 2, -3), ("line", 1, 0)], lines(5, 2, 2, 2), 2)

    def test_part(self):
        self.leads([("part", 1, 3, 4, 5)], [Place(3, begin=4, end=9)], 3)
        self.leads([("part", 2, -1, 4, 0)], [Place(6, begin=4, end=4)] * 2, 6, line=7)
        self.leads([("part", 1, 1, 0, 10000), ("part", 1, 0, 10000, 0), ("next", 1)],
                   [Place(1, begin=0, end=10000), Place(1, begin=10000, end=10000), Place(2)], 2)

    def test_long(self):
        self.leads([("long", 1, 3, 2, 4, 9)], [Place(3, 5, begin=4, end=9)], 3)
        self.leads([("long", 2, -2, 99, 9, 4), ("next", 1)], [Place(5, 104, begin=9, end=4)] * 2 + lines(6), 6, line=7)

    def test_copy(self):
        self.leads([("line", 1, 3), ("copy", 1, 1, 0)], lines(3, 3), 3)
        self.leads([("line", 1, 3), ("line", 1, 4), ("copy", 2, 2, 0)], lines(3, 7, 3, 7), 7)
        self.leads([("line", 1, 3), ("line", 1, 4), ("copy", 1, 2, 0), ("next", 1)], lines(3, 7, 3, 4), 4)

    def test_copies_reach_into_cards_that_they_led(self):
        self.leads([("line", 1, 3), ("copy", 4, 1, 1)], lines(3, 4, 5, 6, 7), 7)
        self.leads([("line", 1, 30), ("line", 1, 4), ("copy", 4, 2, -10)], lines(30, 34, 20, 24, 10, 14), 14)
        self.leads([("line", 1, 3), ("none", 1), ("copy", 5, 2, 2)],
                   lines(3) + [NOWHERE] + lines(5) + [NOWHERE] + lines(7) + [NOWHERE] + lines(9), 9)

    def test_copies_of_nowhere_and_of_columns(self):
        self.leads([("none", 1), ("copy", 3, 1, -10 ** 6)], [NOWHERE] * 4, 6, line=6)
        self.leads([("none", 1), ("copy", 3, 1, 10 ** 6), ("next", 1)], [NOWHERE] * 4 + lines(7), 7, line=6)
        self.leads([("part", 1, 3, 4, 5), ("long", 1, 1, 2, 6, 1), ("copy", 2, 2, 5)],
                   [Place(3, begin=4, end=9), Place(4, 6, begin=6, end=1),
                    Place(8, begin=4, end=9), Place(9, 11, begin=6, end=1)], 9)

    def test_copy_back_fifteen(self):
        row = [("next", 1)] * 15 + [("copy", 16, 15, 0)]
        self.leads(row, lines(*range(1, 16), *range(1, 16), 1), 1)

    def test_line_by_name_alone(self):
        for ask in (led, line_behind):
            with self.assertRaises(TypeError):
                ask([], 3)

    def test_just_at_the_bounds(self):
        self.leads([("line", 1, 10 ** 6)], lines(10 ** 6), 10 ** 6)
        self.leads([("line", 1, -999999)], lines(1), 1, line=10 ** 6)
        self.leads([("line", 1, 0)], lines(10 ** 6), 10 ** 6, line=10 ** 6)
        self.leads([("next", 1)], lines(10 ** 6), 10 ** 6, line=999999)
        self.leads([("part", 1, 1, 5000, 5000)], [Place(1, begin=5000, end=10000)], 1)
        self.leads([("long", 1, 999901, 99, 10000, 10000)], [Place(999901, 10 ** 6, begin=10000, end=10000)], 999901)
        self.leads([("line", 1, 3), ("copy", 2, 1, -1)], lines(3, 2, 1), 1)
        self.leads([("line", 1, 999998), ("copy", 2, 1, 1)], lines(999998, 999999, 10 ** 6), 10 ** 6)
        self.leads([("long", 1, 1, 1, 0, 0), ("copy", 1, 1, 999998)],
                   [Place(1, 2, begin=0, end=0), Place(999999, 10 ** 6, begin=0, end=0)], 999999)
        self.leads([("none", 16)] * 10, [NOWHERE] * 160, 0)


class Refused(unittest.TestCase):
    def refused(self, entries, number, **ahead):
        for row in (list(entries), tuple(entries)):
            for ask in (led, line_behind):
                with self.assertRaises(BadEntry) as caught:
                    ask(row, **ahead)
                self.assertEqual(caught.exception.number, number)

    def test_no_cards_ahead(self):
        self.refused([("same", 1)], 0)
        self.refused([("same", 16)], 0, line=7)
        self.refused([("copy", 1, 1, 0)], 0, line=7)

    def test_fewer_cards_ahead_than_back(self):
        for back in range(2, 16):
            self.refused([("none", back - 1), ("copy", 1, back, 0)], 1)
            self.refused([("none", back - 1), ("copy", 16, back, 0)], 1)
            self.assertEqual(led([("none", back), ("copy", 1, back, 0)]), [NOWHERE] * (back + 1))

    def test_no_line(self):
        self.refused([("line", 1, 0)], 0)
        self.refused([("line", 1, -1)], 0)
        self.refused([("line", 1, -10 ** 6)], 0, line=10 ** 6)
        self.refused([("line", 1, 1)], 0, line=10 ** 6)
        self.refused([("line", 1, 10 ** 6)], 0, line=1)
        self.refused([("next", 1)], 0, line=10 ** 6)
        self.refused([("next", 1), ("next", 1), ("line", 1, -2)], 2)
        self.refused([("part", 1, 0, 0, 0)], 0)
        self.refused([("part", 1, 1, 0, 0)], 0, line=10 ** 6)
        self.refused([("long", 1, 0, 1, 0, 0)], 0)
        self.refused([("long", 1, 1, 1, 0, 0)], 0, line=10 ** 6)
        self.refused([("long", 1, 0, 1, 0, 0)], 0, line=10 ** 6)
        self.refused([("long", 1, 0, 99, 0, 0)], 0, line=999902)

    def test_no_column(self):
        self.refused([("part", 1, 1, 1, 10000)], 0)
        self.refused([("part", 1, 1, 10000, 1)], 0)
        self.refused([("next", 3), ("part", 1, 1, 5000, 5001)], 1)

    def test_copies_beyond(self):
        self.refused([("line", 1, 3), ("copy", 1, 1, -3)], 1)
        self.refused([("line", 1, 3), ("copy", 3, 1, -1)], 1)
        self.refused([("line", 1, 10 ** 6), ("copy", 1, 1, 1)], 1)
        self.refused([("line", 1, 999998), ("copy", 3, 1, 1)], 1)
        self.refused([("long", 1, 1, 1, 0, 0), ("copy", 1, 1, 999999)], 1)
        self.refused([("none", 1), ("line", 1, 3), ("copy", 2, 2, -3)], 2)

    def test_first_of_several(self):
        self.refused([("next", 1), ("copy", 1, 2, 0), ("line", 1, -5), ("copy", 1, 15, 0)], 1)
        self.refused([("none", 2), ("line", 1, 0), ("copy", 1, 9, 0)], 1)
        self.refused([("same", 1), ("same", 1)], 0)


class AllSorts(unittest.TestCase):
    def entry(self, chance):
        many = chance.choice((1, 1, 2, 3, 16))
        step = chance.choice((-10, -3, -1, 0, 1, 2, 5, 999990))
        column = chance.choice((0, 1, 4999, 5000, 5001))
        return chance.choice((
            ("none", many), ("same", many), ("next", many), ("line", many, step),
            ("part", many, step, column, 5000), ("long", many, step, chance.choice((1, 2, 99)), column, 3),
            ("copy", many, chance.choice((1, 1, 2, 3, 15)), step),
        ))

    def test_as_the_document_tells_card_by_card(self):
        chance = random.Random(8)
        stood = 0
        for round_ in range(6000):
            entries = [self.entry(chance) for number in range(chance.randrange(1, 7))]
            line = chance.choice((0, 1, 7, 100, 999999, 10 ** 6))
            wanted = led_by_the_document(entries, line)
            try:
                told = (led(entries, line=line), line_behind(entries, line=line))
                stood += 1
            except BadEntry as refused:
                told = refused.number
            if told != wanted:
                self.fail(f"{entries} {line} told {told}, not {wanted}")
        self.assertTrue(500 < stood < 5500)


if __name__ == "__main__":
    unittest.main()
