import itertools
import random
import unittest

from cardlines.entries import entry_bytes, is_entry
from cardlines.leading import COPIES, HEADS, led
from cardlines.least import least_entries, prices
from cardlines.places import Place
from tests.document import bytes_of, first_rows, led_by_the_document, rows_to
from tests.things import forms

NOWHERE = Place()
PART = Place(2, begin=1, end=3)
LONG = Place(3, 4, begin=5, end=1)
MAKES = (COPIES, HEADS)


def lines(*numbers):
    return [Place(number) for number in numbers]


def lists_of(kinds, many):
    return itertools.product(kinds, repeat=many)


class Known(unittest.TestCase):
    def least(self, places, wanted, **named):
        for row in (list(places), tuple(places)):
            told = least_entries(row, **named)
            self.assertIs(type(told), list)
            self.assertEqual(told, wanted)
            self.assertEqual(least_entries(places=row, **named), wanted)
        self.assertEqual(prices(places, **named)[-1], len(bytes_of(wanted)))

    def test_none_of_them(self):
        self.least([], [])
        self.least([], [], line=7, make=HEADS)

    def test_one(self):
        for make in MAKES:
            self.least([NOWHERE], [("none", 1)], line=3, make=make)
            self.least(lines(1), [("next", 1)], make=make)
            self.least(lines(4), [("next", 1)], line=3, make=make)
            self.least(lines(4), [("line", 1, 0)], line=4, make=make)
            self.least(lines(4), [("line", 1, -1)], line=5, make=make)
            self.least(lines(4), [("line", 1, 4)], make=make)
            self.least([PART], [("part", 1, 1, 1, 2)], line=1, make=make)
            self.least([PART], [("part", 1, -3, 1, 2)], line=5, make=make)
            self.least([LONG], [("long", 1, 3, 1, 5, 1)], make=make)
            self.least([LONG], [("long", 1, 0, 1, 5, 1)], line=3, make=make)

    def test_runs(self):
        for make in MAKES:
            self.least(lines(3, 3, 3), [("next", 3)], line=2, make=make)
            self.least(lines(*[3] * 16), [("line", 16, 3)], make=make)
            self.least([NOWHERE] * 16, [("none", 16)], make=make)
            self.least([PART] * 5 + [NOWHERE] * 2, [("part", 5, 1, 1, 2), ("none", 2)], line=1, make=make)
            self.least([LONG] * 15, [("long", 15, 3, 1, 5, 1)], make=make)

    def test_lines_that_rise(self):
        self.least(lines(1, 2, 3), [("next", 1)] * 3)
        # Both ways have four bytes, and 160 is ahead of 226.
        self.least(lines(1, 2, 3, 4), [("next", 1)] * 4)
        self.least(lines(1, 2, 3, 4, 5), [("next", 1), ("copy", 4, 1, 1)])
        self.least(lines(*range(1, 17)), [("next", 1), ("copy", 15, 1, 1)])
        self.least(lines(*range(1, 17)), [("next", 1)] * 16, make=HEADS)
        self.least(lines(*range(40, 8, -2)), [("line", 1, 0), ("copy", 15, 1, -2)], line=40)

    def test_parts_told_again(self):
        first = [Place(2, begin=1, end=3), Place(2, begin=4, end=9), Place(3, 5, begin=0, end=7)]
        again = [place.moved(10) for place in first]
        heads = [("part", 1, 2, 1, 2), ("part", 1, 0, 4, 5), ("long", 1, 1, 2, 0, 7)]
        self.least(first + first, heads + [("copy", 3, 3, 0)])
        self.least(first + again, heads + [("copy", 3, 3, 10)])
        self.least(first + again, heads + [("part", 1, 9, 1, 2), ("part", 1, 0, 4, 5), ("long", 1, 1, 2, 0, 7)],
                   make=HEADS)

    def test_copies_that_reach_into_their_own_cards(self):
        told = [Place(9 + 5 * many, begin=1 + many % 2, end=3) for many in range(12)]
        heads = [("part", 1, 9, 1, 2), ("part", 1, 5, 2, 1)]
        self.least(told, heads + [("copy", 10, 2, 10)])
        mixed = [NOWHERE, Place(5), NOWHERE, Place(6), NOWHERE, Place(7), NOWHERE, Place(8), NOWHERE]
        self.least(mixed, [("none", 1), ("line", 1, 5), ("copy", 7, 2, 1)])

    def test_nowhere_among_copies(self):
        # A copy of nowheres alone is never less than none, and its shift would be 0.
        self.least([PART, NOWHERE, NOWHERE, PART], [("part", 1, 2, 1, 2), ("none", 2), ("copy", 1, 3, 0)])
        self.least(lines(7) + [NOWHERE] * 15, [("line", 1, 7), ("none", 15)])

    def test_same(self):
        # Behind a copy that ends within a run, same goes on with it.
        told = lines(10, 30, 10, 30, 10, 30, 30, 30)
        for make in MAKES:
            row = least_entries(told, line=9, make=make)
            self.assertEqual(led(row, line=9), told)
        self.least(told, [("next", 1), ("line", 1, 20), ("copy", 4, 2, 0), ("same", 2)], line=9)

    def test_fewest_bytes_go_ahead_of_first_bytes(self):
        # By line, 176, three bytes; by copy, 224, as many: the first goes. With fewer, the copy goes.
        self.least(lines(1, 100, 1), [("next", 1), ("line", 1, 99), ("line", 1, -99)])
        self.least(lines(1, 5000, 1), [("next", 1), ("line", 1, 4999), ("copy", 1, 2, 0)])

    def test_edges_of_figures(self):
        for far, many in ((31, 2), (32, 3), (-32, 2), (-33, 3), (2047, 3), (2048, 4), (-2048, 3), (-2049, 4),
                          (131071, 4), (131072, 5), (-131072, 4), (-131073, 5)):
            entry = ("line", 1, far)
            self.assertEqual(len(entry_bytes(entry)), many)
            self.least(lines(200000 + far), [entry], line=200000)
            self.assertEqual(prices(lines(200000 + far), line=200000), [0, many])

    def test_edges_of_lines_columns_and_steps(self):
        top = 10 ** 6
        for make in MAKES:
            self.least(lines(top), [("line", 1, top)], make=make)
            self.least(lines(top), [("line", 1, 0)], line=top, make=make)
            self.least(lines(top), [("next", 1)], line=top - 1, make=make)
            self.least(lines(1), [("line", 1, 1 - top)], line=top, make=make)
            self.least(lines(1, top), [("next", 1), ("line", 1, top - 1)], make=make)
            self.least([Place(1, begin=0, end=10000)], [("part", 1, 1, 0, 10000)], make=make)
            self.least([Place(1, begin=10000, end=10000)], [("part", 1, 1, 10000, 0)], make=make)
            self.least([Place(top - 99, top, begin=10000, end=0)], [("long", 1, top - 99, 99, 10000, 0)], make=make)
        self.least(lines(1, top, 1, top, 1, top),
                   [("next", 1), ("line", 1, top - 1), ("copy", 4, 2, 0)])

    def test_back_fifteen(self):
        first = [Place(3 * many * many + 1, begin=many, end=99 - many) for many in range(15)]
        self.assertEqual(least_entries(first + [first[0]])[-1], ("copy", 1, 15, 0))
        moved = first[0].moved(-1 + 9)
        self.assertEqual(least_entries(first + [moved])[-1], ("copy", 1, 15, 8))

    def test_make_and_line_by_name_alone(self):
        for ask in (least_entries, prices):
            for given in (([], 3), ([], 3, COPIES)):
                with self.assertRaises(TypeError):
                    ask(*given)


class BesideASearch(unittest.TestCase):
    def beside_all_rows(self, places, line, make):
        places = list(places)
        rows = rows_to(places, line, make)
        wanted = min(rows, key=lambda row: (len(bytes_of(row)), bytes_of(row)))
        told = least_entries(places, line=line, make=make)
        if told != wanted:
            self.fail(f"{places} {line} {make}: {told}, not {wanted}")
        self.assertEqual(led_by_the_document(told, line)[0], places)

    def test_all_short_lists(self):
        kinds = (NOWHERE, Place(1), Place(2), PART, LONG)
        for many in range(4):
            for places in lists_of(kinds, many):
                for line in (0, 1, 9):
                    for make in MAKES:
                        self.beside_all_rows(places, line, make)

    def test_longer_lists_of_fewer_kinds(self):
        for kinds, many in (((NOWHERE, Place(5)), 4), ((Place(4), Place(5)), 5), ((Place(1), Place(200)), 5)):
            for places in lists_of(kinds, many):
                self.beside_all_rows(places, 4, COPIES)
                self.beside_all_rows(places, 0, HEADS)

    def test_lines_ahead(self):
        """0, just ahead of the first line, the line itself, any."""
        for places in lists_of((NOWHERE, Place(3), Place(4), Place(3, begin=0, end=0)), 3):
            for line in (0, 2, 3, 4, 77, 10 ** 6):
                for make in MAKES:
                    self.beside_all_rows(places, line, make)

    def test_moved_parts(self):
        for places in lists_of((PART, PART.moved(1), PART.moved(40), NOWHERE), 4):
            self.beside_all_rows(places, 1, COPIES)


class BesideASearchFromTheFront(unittest.TestCase):
    def strips(self, chance):
        """Sixteen places or fewer with runs, lines that rise, parts told again moved, nowheres."""
        told = []
        while len(told) < 16:
            way = chance.randrange(6)
            line = chance.choice((1, 2, 3, 40, 5000))
            if way == 0:
                told += [Place(line)] * chance.randrange(1, 5)
            elif way == 1:
                told += [Place(line + by) for by in range(chance.randrange(2, 5))]
            elif way == 2:
                told += [Place(line, begin=4, end=chance.choice((4, 70)))]
            elif way == 3:
                told += [NOWHERE] * chance.randrange(1, 4)
            elif way == 4:
                told += [Place(line, line + 1, begin=4, end=0)]
            elif told:
                by = chance.choice((0, 1, 7, 100))
                told += [place.moved(by) for place in told[-chance.randrange(1, 7):]]
        return told[:chance.choice((16, 16, 16, 15, 9))]

    def test_longer_lists(self):
        chance = random.Random(9)
        words = set()
        for round_ in range(120):
            places = self.strips(chance)
            line = chance.choice((0, 1, 2, 41, 10 ** 6))
            make = chance.choice((COPIES, COPIES, HEADS))
            best = first_rows(places, line, make)
            told = least_entries(places, line=line, make=make)
            self.assertEqual(bytes_of(told), best[-1], f"{places} {line} {make}")
            self.assertEqual(led_by_the_document(told, line)[0], places)
            self.assertEqual(prices(places, line=line, make=make), [len(codes) for codes in best])
            words |= {entry[0] for entry in told}
        self.assertGreaterEqual(words, {"none", "next", "line", "part", "long", "copy"})

    def test_all_lists_of_two_kinds(self):
        for places in itertools.islice(lists_of((Place(7), NOWHERE), 8), 0, None, 7):
            for make in MAKES:
                best = first_rows(places, 6, make)
                self.assertEqual(bytes_of(least_entries(places, line=6, make=make)), best[-1])


class Prices(unittest.TestCase):
    def test_known(self):
        self.assertEqual(prices([]), [0])
        self.assertEqual(prices([], line=9, make=HEADS), [0])
        self.assertEqual(prices(lines(1)), [0, 1])
        self.assertEqual(prices(lines(4)), [0, 2])
        self.assertEqual(prices(lines(1, 2, 3, 4, 5, 6)), [0, 1, 2, 3, 4, 4, 4])
        self.assertEqual(prices(lines(1, 2, 3, 4, 5, 6), make=HEADS), [0, 1, 2, 3, 4, 5, 6])
        self.assertEqual(prices([NOWHERE] * 16, line=3), [0] + [1] * 16)
        self.assertEqual(prices([PART, PART, LONG], line=2), [0, 4, 4, 9])

    def test_a_price_may_be_above_the_one_behind_it(self):
        told = prices([Place(5000), Place(1), NOWHERE, Place(5000), Place(1), NOWHERE])
        self.assertEqual(told, [0, 4, 8, 9, 12, 12, 12])

    def test_one_more_than_places_and_the_last_is_of_the_least_row(self):
        for many in range(17):
            places = [Place(1 + (many * card) % 5, begin=1, end=card % 3 + 1) for card in range(many)]
            for make in MAKES:
                for line in (0, 3, 10 ** 6):
                    told = prices(places, line=line, make=make)
                    self.assertIs(type(told), list)
                    self.assertEqual(len(told), many + 1)
                    self.assertEqual(told[0], 0)
                    self.assertEqual(told[-1], len(bytes_of(least_entries(places, line=line, make=make))))

    def test_of_the_first_places_alone_the_first_prices(self):
        places = lines(1, 2, 3) + [PART, PART.moved(4), NOWHERE, LONG] + lines(1, 2, 3) + [PART] * 3 + [NOWHERE] * 3
        self.assertEqual(len(places), 16)
        for make in MAKES:
            told = prices(places, line=5, make=make)
            for many in range(17):
                self.assertEqual(prices(places[:many], line=5, make=make), told[:many + 1])

    def test_make_and_line_left_out(self):
        places = lines(1, 2, 3, 4, 5, 6, 7)
        self.assertEqual(prices(places), prices(places, line=0, make="copies"))
        self.assertEqual(prices(places=places, make="heads"), prices(places, make="heads", line=0))
        self.assertEqual(least_entries(places), least_entries(places, line=0, make="copies"))
        self.assertNotEqual(prices(places), prices(places, line=3))
        self.assertNotEqual(prices(places), prices(places, make="heads"))


class AtTheBounds(unittest.TestCase):
    def test_sixteen_places_of_all_kinds(self):
        chance = random.Random(3)
        every = forms()
        for round_ in range(150):
            places = [chance.choice(every) for card in range(16)]
            for make in MAKES:
                for line in (0, 10 ** 6):
                    row = least_entries(places, line=line, make=make)
                    self.assertTrue(all(is_entry(entry) for entry in row))
                    self.assertTrue(make == COPIES or all(entry[0] != "copy" for entry in row))
                    self.assertEqual(led(row, line=line), places)
                    self.assertEqual(prices(places, line=line, make=make)[-1], len(bytes_of(row)))

    def test_sixteen_of_each_form(self):
        for place in forms()[::5]:
            for make in MAKES:
                row = least_entries([place] * 16, line=3, make=make)
                self.assertEqual(len(row), 1)
                self.assertEqual(led(row, line=3), [place] * 16)

    def test_somewhat_beyond_them_nothing_is_refused(self):
        for make in MAKES:
            row = least_entries([NOWHERE] * 40 + lines(5, 6), make=make)
            self.assertEqual(led(row), [NOWHERE] * 40 + lines(5, 6))
            self.assertEqual(row[:3], [("none", 8), ("none", 16), ("none", 16)])


if __name__ == "__main__":
    unittest.main()
