import itertools
import random
import unittest

from cardlines.entries import entry_bytes
from cardlines.leading import COPIES, HEADS
from cardlines.least import least_entries, prices
from cardlines.leastcheck import shows_least
from cardlines.places import Place
from tests.document import bytes_of, entries_on, led_by_the_document
from tests.things import NO_NUMBERS, forms, nested

NOWHERE = Place()
PART = Place(2, begin=1, end=3)
LONG = Place(3, 4, begin=5, end=1)
RISING = [Place(line) for line in range(1, 8)]
STRIPS = (
    [], [NOWHERE], [Place(1)], [Place(9)], RISING, [NOWHERE] * 16, [PART, PART.moved(3), PART.moved(6)],
    [Place(5000), Place(1), NOWHERE, Place(5000), Place(1), NOWHERE], [LONG, PART, LONG, PART, LONG, Place(4)],
)
MAKES = (COPIES, HEADS)


def legs_by_the_document(places, line, make):
    """All (i, j, bytes) of entries that lead from i cards to j."""
    return [(card, card + entry[1], len(entry_bytes(entry)))
            for card, entries in enumerate(entries_on(places, line, make)) for entry in entries]


def holds(legs, told):
    """Whether no entry that leads on has fewer bytes than the price behind it less the price ahead of it."""
    return all(many >= told[behind] - told[card] for card, behind, many in legs)


class Shown(unittest.TestCase):
    def test_what_least_tells(self):
        for places in STRIPS:
            for make in MAKES:
                for line in (0, 1, 4, 10 ** 6):
                    row = least_entries(places, line=line, make=make)
                    told = prices(places, line=line, make=make)
                    self.assertIs(shows_least(places, row, told, line=line, make=make), True)
                    self.assertIs(shows_least(tuple(places), row, told, line=line, make=make), True)
                    self.assertIs(shows_least(make=make, line=line, prices=told, entries=row, places=places), True)

    def test_line_and_make_left_out(self):
        row, told = least_entries(RISING), prices(RISING)
        self.assertIs(shows_least(RISING, row, told), True)
        self.assertIs(shows_least(RISING, row, told, line=0, make="copies"), True)
        self.assertIs(shows_least(RISING, row, told, line=1), False)
        self.assertIs(shows_least(RISING, row, told, make="heads"), False)
        with self.assertRaises(TypeError):
            shows_least(RISING, row, told, 0)

    def test_another_row_of_as_few_bytes(self):
        places = RISING[:4]
        for row in ([("next", 1)] * 4, [("next", 1), ("copy", 3, 1, 1)]):
            self.assertIs(shows_least(places, row, prices(places)), True)

    def test_other_prices_that_hold(self):
        places = [Place(1), Place(2), Place(3)]
        row = [("next", 1)] * 3
        self.assertEqual(prices(places), [0, 1, 2, 3])
        self.assertIs(shows_least(places, row, [0, 1, 2, 3]), True)
        run = [Place(9)] * 3
        row = [("line", 3, 9)]
        for told in ([0, 2, 2, 2], [0, 1, 1, 2], [0, 1, 2, 2], [0, 2, 1, 2], [0, 1, 1, 2]):
            self.assertIs(shows_least(run, row, told), True)

    def test_a_price_as_low_as_the_next_entry_allows(self):
        run = [Place(5000)] * 3
        row = [("line", 3, 5000)]
        self.assertEqual(prices(run), [0, 4, 4, 4])
        self.assertIs(shows_least(run, row, [0, 3, 3, 4]), True)
        self.assertIs(shows_least(run, row, [0, 2, 3, 4]), False)
        self.assertIs(shows_least([NOWHERE] * 2, [("none", 2)], [0, 0, 1]), True)
        self.assertIs(shows_least([NOWHERE] * 2, [("none", 2)], [0, -1, 1]), False)
        two = [PART, LONG]
        row = [("part", 1, 2, 1, 2), ("long", 1, 1, 1, 5, 1)]
        self.assertIs(shows_least(two, row, [0, 4, 9]), True)
        self.assertIs(shows_least(two, row, [0, 3, 9]), False)

    def test_all_prices_of_short_lists(self):
        """Numbers below 0, too, are asked as all others are (none of them holds: from each card some entry undercuts)."""
        for places, line in itertools.product(([NOWHERE] * 3, [Place(9)] * 4, [Place(1), Place(300000), Place(1)]), (0, 8)):
            row = least_entries(places, line=line)
            total = len(bytes_of(row))
            legs = legs_by_the_document(places, line, COPIES)
            held = 0
            for middle in itertools.product(range(-3, 8), repeat=len(places) - 1):
                told = [0, *middle, total]
                wanted = holds(legs, told)
                self.assertIs(shows_least(places, row, told, line=line), wanted, f"{places} {told}")
                held += wanted
            self.assertGreater(held, 0)

    def test_beside_the_document(self):
        """Prices bent a little, of rows that are least and of rows that aren't."""
        chance = random.Random(5)
        seen = {True: 0, False: 0}
        for round_ in range(1500):
            places = [chance.choice((NOWHERE, Place(1), Place(2), Place(400), PART, LONG, PART.moved(1)))
                      for card in range(chance.randrange(1, 7))]
            line = chance.choice((0, 1, 3))
            make = chance.choice(MAKES)
            row = least_entries(places, line=line, make=make)
            told = prices(places, line=line, make=make)
            for bend in range(chance.randrange(3)):
                told[chance.randrange(1, len(told))] += chance.choice((-9, -2, -1, -1, 1))
            wanted = told[-1] == len(bytes_of(row)) and holds(legs_by_the_document(places, line, make), told)
            self.assertIs(shows_least(places, row, told, line=line, make=make), wanted, f"{places} {row} {told}")
            seen[wanted] += 1
        self.assertGreater(min(seen.values()), 200)


class NotShown(unittest.TestCase):
    def setUp(self):
        self.places = [Place(4), PART, PART.moved(1), NOWHERE, PART, PART.moved(1), NOWHERE]
        self.row = least_entries(self.places)
        self.told = prices(self.places)
        self.assertIs(shows_least(self.places, self.row, self.told), True)

    def told_false(self, row, told, **named):
        self.assertIs(shows_least(self.places, row, told, **named), False)

    def test_entries_of_another_make(self):
        self.assertIn("copy", [entry[0] for entry in self.row])
        self.told_false(self.row, self.told, make=HEADS)
        heads = least_entries(self.places, make=HEADS)
        self.told_false(heads, prices(self.places, make=HEADS))
        self.told_false(heads, self.told)

    def test_a_copy_among_heads_where_it_has_no_more_bytes(self):
        places = RISING[:4]
        told = prices(places, make=HEADS)
        self.assertIs(shows_least(places, [("next", 1)] * 4, told, make=HEADS), True)
        self.assertIs(shows_least(places, [("next", 1), ("copy", 3, 1, 1)], told, make=HEADS), False)

    def test_no_list_of_entries(self):
        self.told_false(tuple(self.row), self.told)
        self.told_false([list(entry) for entry in self.row], self.told)
        self.told_false([self.row], self.told)
        self.told_false(self.row[0], self.told)
        for number in range(len(self.row)):
            for thing in (*NO_NUMBERS, None, 0, ("none",), ("none", 0), ("none", 17), ("none", True), ("copy", 1, 16, 0)):
                self.told_false(self.row[:number] + [thing] + self.row[number + 1:], self.told)
                self.told_false(self.row[:number] + [thing] + self.row[number:], self.told)
        self.told_false(self.row + [()], self.told)

    def test_entries_that_lead_elsewhere(self):
        for number, entry in enumerate(self.row):
            self.told_false(self.row[:number] + self.row[number + 1:], self.told)
        self.told_false([], self.told)
        self.told_false(self.row + [("none", 1)], self.told)
        self.told_false([("line", 1, 5)] + self.row[1:], self.told)
        self.told_false([("same", 1)] + self.row[1:], self.told)
        self.told_false([("line", 1, 0)] + self.row[1:], self.told)
        self.told_false(self.row, self.told, line=1)
        self.assertIs(shows_least(self.places[:-1], self.row, self.told), False)
        self.assertIs(shows_least(self.places + [NOWHERE], self.row, self.told), False)
        self.assertIs(shows_least([], [("none", 1)], [0, 1]), False)
        self.assertIs(shows_least([], [("none", 1)], [0]), False)

    def test_no_list_of_numbers(self):
        self.told_false(self.row, tuple(self.told))
        self.told_false(self.row, [self.told])
        self.told_false(self.row, [(price,) for price in self.told])
        self.told_false(self.row, [str(price) for price in self.told])
        for number in range(len(self.told)):
            for thing in (*NO_NUMBERS, None):
                self.told_false(self.row, self.told[:number] + [thing] + self.told[number + 1:])
        one = [Place(1)]
        self.assertIs(shows_least(one, [("next", 1)], [0, 1]), True)
        for told in ([0, True], [False, 1], [False, True], (0, 1), [0, "1"], [0, None], "01", [[0, 1]], [0, [1]]):
            self.assertIs(shows_least(one, [("next", 1)], told), False)

    def test_one_too_many_or_too_few(self):
        self.told_false(self.row, self.told[:-1])
        self.told_false(self.row, self.told[1:])
        self.told_false(self.row, self.told + self.told[-1:])
        self.told_false(self.row, [0] + self.told)
        self.told_false(self.row, [])
        for told in ([], [0, 0], [1], [-1], [False], (0,), 0, None):
            self.assertIs(shows_least([], [], told), False)
        self.assertIs(shows_least([], [], [0]), True)

    def test_first_not_nought(self):
        for first in (-1, 1, 10 ** 9):
            self.told_false(self.row, [first] + self.told[1:])
        # Told from another number on, all differences are as they were.
        self.told_false(self.row, [price + 1 for price in self.told])
        self.told_false(self.row, [price - 1 for price in self.told])

    def test_last_another_one(self):
        for by in (-10 ** 9, -1, 1, 10 ** 9):
            self.told_false(self.row, self.told[:-1] + [self.told[-1] + by])

    def test_a_row_that_is_not_least(self):
        places = RISING
        row = [("next", 1)] * 7
        self.assertIs(shows_least(places, row, list(range(8))), False)
        self.assertIs(shows_least(places, row, list(range(8)), make=HEADS), True)
        self.assertIs(shows_least(places, row, prices(places)), False)
        self.assertIs(shows_least(places, row, [0, 1, 2, 3, 4, 4, 4, 7]), False)

    def test_an_entry_that_undercuts(self):
        places = [Place(9)] * 3
        row = [("line", 3, 9)]
        self.assertIs(shows_least(places, row, [0, 2, 2, 2]), True)
        self.assertIs(shows_least(places, row, [0, 3, 2, 2]), False)
        self.assertIs(shows_least(places, row, [0, 2, 3, 2]), False)
        self.assertIs(shows_least(places, row, [0, 0, 2, 2]), False)
        copied = [PART, LONG, PART, LONG]
        row = least_entries(copied)
        self.assertEqual(prices(copied), [0, 4, 9, 12, 12])
        self.assertIs(shows_least(copied, row, [0, 4, 9, 12, 12]), True)
        self.assertIs(shows_least(copied, row, [0, 4, 9, 13, 12]), False)
        self.assertIs(shows_least(copied, row, [0, 4, 8, 12, 12]), False)


class Anything(unittest.TestCase):
    def things(self):
        few = [0, 1, -1, True, False, None, "", "none", "next", [], (), Place(), Place(1), ("none", 1), ("next", 1)]
        few += [[thing] for thing in few] + [(thing,) for thing in few] + [[thing, thing] for thing in few]
        few += [nested(thing, deep) for thing in (0, "none", ("next", 1), Place(1), None) for deep in range(1, 6)]
        few += [[0, 1], [0, 2], [0, -1], [("next", 1), 0], [("none", 1, 1)], [("next", (1,))], [("line", 1, None)]]
        few += [[(Place(1), 1)], [(("next", 1), 1)], [([], 1)], [("line", 1, Place(1))], [("line", 1, 1)], 10 ** 30]
        return few

    def test_true_or_false_alone_of_anything(self):
        for places, row, told in (([], [], [0]), ([Place(1)], [("next", 1)], [0, 1]), ([NOWHERE], [("none", 1)], [0, 1])):
            for entries in self.things():
                for prices_ in (told, *self.things()):
                    wanted = type(entries) is list and entries == row and type(prices_) is list \
                        and [type(price) for price in prices_] == [int] * len(told) and prices_ == told
                    self.assertIs(shows_least(places, entries, prices_), wanted, f"{places} {entries} {prices_}")

    def test_sixteen_places_of_all_kinds(self):
        chance = random.Random(4)
        every = forms()
        for round_ in range(40):
            places = [chance.choice(every) for card in range(16)]
            for make in MAKES:
                row, told = least_entries(places, make=make), prices(places, make=make)
                self.assertIs(shows_least(places, row, told, make=make), True)
                self.assertEqual(led_by_the_document(row, 0)[0], places)
                told[-1] -= 1
                self.assertIs(shows_least(places, row, told, make=make), False)


if __name__ == "__main__":
    unittest.main()
