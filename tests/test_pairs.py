import itertools
import random
import unittest

from cardlines.errors import NoRoom, Torn
from cardlines.pairs import pairs_back, pairs_read, pairs_written
from cardlines.places import Place
from tests.things import forms

NOWHERE = Place()


def lines(*numbers):
    return [Place(number) for number in numbers]


def read_by_the_document(codes, line):
    """Point [13], card by card: (places, line ahead behind), or the byte that can't stand."""
    places = []
    rest = list(codes)
    while len(rest) >= 2:
        at = len(codes) - len(rest)
        many, step, *rest = rest
        if step in range(201):
            line = line + step - 100
            if many and line not in range(1, 10 ** 6 + 1):
                return at
        elif step != 201 or many == 0:
            return at + 1
        for card in range(many):
            places.append(NOWHERE if step == 201 else Place(line))
    return len(codes) if rest else (places, line)


def fewest_pairs(places, line):
    """How many entries the shortest pair table has, told by what each run needs at least."""
    many = 0
    for place, cards in itertools.groupby(places, key=str):
        cards = list(cards)
        many += -(-len(cards) // 255)
        if cards[0].line is not None:
            many += max(0, -(-abs(cards[0].line - line) // 100) - 1)
            line = cards[0].line
    return many


class Written(unittest.TestCase):
    def writes(self, places, wanted, **named):
        for row in (list(places), tuple(places)):
            told = pairs_written(row, **named)
            self.assertIs(type(told), list)
            self.assertEqual(told, wanted)
            self.assertEqual(pairs_written(places=row, **named), wanted)
        self.assertEqual(pairs_read(wanted, **named), list(places))

    def test_none_of_them(self):
        self.writes([], [])
        self.writes([], [], line=10 ** 6)

    def test_steps(self):
        self.writes(lines(1), [1, 101])
        self.writes(lines(7), [1, 100], line=7)
        self.writes(lines(7, 8, 6, 6), [1, 107, 1, 101, 2, 98])
        self.writes(lines(100), [1, 200])
        self.writes(lines(107), [1, 200], line=7)
        self.writes(lines(1), [1, 0], line=101)

    def test_steps_above_a_hundred(self):
        self.writes(lines(101), [0, 200, 1, 101])
        self.writes(lines(200), [0, 200, 1, 200])
        self.writes(lines(201), [0, 200, 0, 200, 1, 101])
        self.writes(lines(1, 102), [1, 101, 0, 200, 1, 101])
        self.writes(lines(10 ** 4), [0, 200] * 99 + [1, 200])
        self.writes(lines(10 ** 4), [0, 200] * 99 + [1, 199], line=1)

    def test_steps_below_a_hundred(self):
        self.writes(lines(1), [0, 0, 1, 99], line=102)
        self.writes(lines(1), [0, 0, 1, 0], line=201)
        self.writes(lines(1), [0, 0, 0, 0, 1, 99], line=202)
        self.writes(lines(10 ** 4, 1), [1, 100] + [0, 0] * 99 + [1, 1], line=10 ** 4)
        self.writes(lines(10 ** 4), [0, 0] * 9899 + [1, 0], line=10 ** 6)

    def test_nowhere(self):
        self.writes([NOWHERE], [1, 201])
        self.writes([NOWHERE] * 3, [3, 201], line=99)
        self.writes(lines(5) + [NOWHERE] * 2 + lines(5, 105), [1, 105, 2, 201, 1, 100, 1, 200])

    def test_runs_above_255(self):
        self.writes([Place(3)] * 255, [255, 103])
        self.writes([Place(3)] * 256, [255, 103, 1, 100])
        self.writes([Place(3)] * 510, [255, 103, 255, 100])
        self.writes([Place(3)] * 511, [255, 103, 255, 100, 1, 100])
        self.writes([Place(3)] * 600, [255, 103, 255, 100, 90, 100])
        self.writes([Place(300)] * 600, [0, 200, 0, 200, 255, 200, 255, 100, 90, 100])
        self.writes([NOWHERE] * 600, [255, 201, 255, 201, 90, 201])
        self.writes([NOWHERE] * 255 + lines(2), [255, 201, 1, 102])

    def test_line_by_name_alone(self):
        for ask in (pairs_written, pairs_read):
            with self.assertRaises(TypeError):
                ask([], 3)

    def test_line_left_out(self):
        self.assertEqual(pairs_written(lines(5)), pairs_written(lines(5), line=0))
        self.assertNotEqual(pairs_written(lines(5)), pairs_written(lines(5), line=1))

    def test_six_hundred_cards(self):
        chance = random.Random(40)
        for round_ in range(25):
            places = []
            while len(places) < 600:
                place = NOWHERE if chance.randrange(4) == 0 else Place(chance.choice((1, 2, 100, 101, 350, 10 ** 4)))
                places += [place] * chance.choice((1, 2, 30, 300))
            places = places[:600]
            line = chance.choice((0, 1, 100, 10 ** 4, 10 ** 5))
            codes = pairs_written(places, line=line)
            self.assertEqual(read_by_the_document(codes, line)[0], places)
            self.assertEqual(pairs_read(codes, line=line), places)
            self.assertEqual(len(codes), 2 * fewest_pairs(places, line))

    def test_no_room(self):
        for place in forms():
            if place.begin is None:
                continue
            for places, card in (([place], 0), (lines(1, 2) + [place], 2), ([NOWHERE, place, place], 1)):
                with self.assertRaises(NoRoom) as caught:
                    pairs_written(places, line=5)
                self.assertEqual(caught.exception.card, card)
        many = lines(5) * 599 + [Place(5, begin=0, end=0)]
        with self.assertRaises(NoRoom) as caught:
            pairs_written(tuple(many))
        self.assertEqual(caught.exception.card, 599)

    def test_no_table_of_fewer_bytes(self):
        """Beside a search over all rows of entries of few kinds, one entry more at a time."""
        steps = (0, 50, 99, 100, 101, 150, 200, 201)
        for places in itertools.product((NOWHERE, Place(1), Place(51), Place(251)), repeat=2):
            codes = pairs_written(places, line=1)
            for many in range(len(codes) // 2):
                for row in itertools.product(itertools.product((0, 1, 2), steps), repeat=many):
                    told = read_by_the_document([code for pair in row for code in pair], 1)
                    self.assertFalse(isinstance(told, tuple) and told[0] == list(places))
                if many == 2:
                    break


class Read(unittest.TestCase):
    def torn(self, codes, at, **named):
        for row in (list(codes), tuple(codes)):
            with self.assertRaises(Torn) as caught:
                pairs_read(row, **named)
            self.assertEqual(caught.exception.at, at)

    def test_known(self):
        self.assertEqual(pairs_read([]), [])
        self.assertEqual(pairs_read([0, 200, 0, 0]), [])
        self.assertEqual(pairs_read((2, 101, 1, 201, 1, 100)), [Place(1), Place(1), NOWHERE, Place(1)])
        self.assertEqual(pairs_read(codes=[1, 93], line=10), lines(3))
        self.assertIs(type(pairs_read(())), list)

    def test_the_line_ahead_may_be_any_where_no_cards_are_led_there(self):
        self.assertEqual(pairs_read([0, 0, 0, 0, 0, 200, 0, 200, 1, 101]), lines(1))
        self.assertEqual(pairs_read([0, 0, 2, 201, 0, 200, 1, 101]), [NOWHERE] * 2 + lines(1))
        self.assertEqual(pairs_read([0, 200, 1, 0], line=10 ** 6), lines(10 ** 6))
        self.assertEqual(pairs_read([0, 200], line=10 ** 6), [])
        self.assertEqual(pairs_read([0, 100]), [])

    def test_steps_that_cannot_stand(self):
        for step in range(202, 256):
            for many in (0, 1, 255):
                self.torn([many, step], 1)
                self.torn([1, 101, many, step, 1, 0], 3)
        self.torn([0, 201], 1)
        self.torn([3, 201, 0, 201], 3)
        self.assertEqual(pairs_read([1, 201]), [NOWHERE])

    def test_lines_that_are_none(self):
        for step in range(101):
            self.torn([1, step], 0)
            self.torn([255, step], 0)
        self.assertEqual(pairs_read([1, 101]), lines(1))
        self.torn([1, 101, 1, 99], 2)
        self.torn([0, 0, 1, 200], 2)
        self.torn([1, 101], 0, line=10 ** 6)
        self.assertEqual(pairs_read([1, 100], line=10 ** 6), lines(10 ** 6))
        self.torn([0, 200, 1, 1], 2, line=10 ** 6)
        self.assertEqual(pairs_read([0, 200, 1, 0, 1, 100], line=10 ** 6), lines(10 ** 6, 10 ** 6))

    def test_an_odd_number_of_bytes_behind_all_others(self):
        self.torn([0], 1)
        self.torn([255], 1)
        self.torn([1, 101, 1], 3)
        self.torn([1, 101, 0], 3)
        self.torn([1, 100, 1], 0)
        self.torn([1, 101, 1, 202, 1], 3)

    def test_entry_by_entry(self):
        self.torn([1, 100, 1, 255], 0)
        self.torn([1, 255, 1, 0], 1)
        self.torn([1, 101, 0, 201, 1, 0, 7], 3)

    def test_beside_the_document(self):
        chance = random.Random(41)
        stood = 0
        for round_ in range(5000):
            codes = []
            for number in range(chance.randrange(8)):
                codes += [chance.choice((0, 0, 1, 2, 255)), chance.choice((0, 99, 100, 101, 150, 200, 200, 201, 201))]
            if codes and chance.randrange(3) == 0:
                codes[chance.randrange(len(codes))] = chance.randrange(256)
            codes = codes[:len(codes) - (chance.randrange(4) == 0)]
            line = chance.choice((0, 1, 150, 10 ** 6 - 50, 10 ** 6))
            wanted = read_by_the_document(codes, line)
            if isinstance(wanted, int):
                self.torn(codes, wanted, line=line)
                continue
            stood += 1
            self.assertEqual(pairs_read(codes, line=line), wanted[0])
            self.assertEqual(pairs_back(codes, wanted[1]), (wanted[0][::-1], line))
        self.assertGreater(stood, 1000)

    def test_any_bytes(self):
        chance = random.Random(42)
        for round_ in range(500):
            codes = [chance.randrange(256) for at in range(chance.choice((1, 2, 3, 9, 400)))]
            wanted = read_by_the_document(codes, 500)
            if isinstance(wanted, int):
                self.torn(codes, wanted, line=500)
            else:
                self.assertEqual(pairs_read(codes, line=500), wanted[0])

    def test_all_of_two_and_three_bytes(self):
        for many in (0, 1, 2, 255):
            for step in range(256):
                for more in ([], [1]):
                    codes = [many, step] + more
                    wanted = read_by_the_document(codes, 50)
                    if isinstance(wanted, int):
                        self.torn(codes, wanted, line=50)
                    else:
                        self.assertEqual(pairs_read(codes, line=50), wanted[0])


class Back(unittest.TestCase):
    def goes_back(self, codes, line, places, first):
        for row in (list(codes), tuple(codes)):
            told = pairs_back(row, line)
            self.assertEqual([type(told), type(told[0])], [tuple, list])
            self.assertEqual(told, (places, first))
            self.assertEqual(pairs_back(line=line, codes=row), (places, first))

    def test_known(self):
        self.goes_back([], 7, [], 7)
        self.goes_back([], -7, [], -7)
        self.goes_back([1, 101], 1, lines(1), 0)
        self.goes_back([2, 103, 1, 201, 1, 99], 2, lines(2) + [NOWHERE] + lines(3, 3), 0)
        self.goes_back([3, 201], 0, [NOWHERE] * 3, 0)
        self.goes_back([1, 201, 1, 200], 10 ** 6, [Place(10 ** 6), NOWHERE], 999900)

    def test_lines_ahead_beyond_the_bounds(self):
        self.goes_back([0, 0, 0, 0, 0, 200, 1, 200, 0, 0], -99, lines(1), 1)
        self.goes_back([0, 0], -100, [], 0)
        self.goes_back([0, 200, 0, 200], 10 ** 6 + 150, [], 10 ** 6 - 50)
        self.goes_back([1, 150, 0, 200, 0, 200, 2, 201], 10 ** 6 + 200, [NOWHERE] * 2 + lines(10 ** 6), 10 ** 6 - 50)

    def test_by_another_line_other_places(self):
        self.goes_back([1, 101, 1, 101], 9, lines(9, 8), 7)
        self.goes_back([1, 101, 1, 101], 2, lines(2, 1), 0)

    def test_of_what_was_written(self):
        chance = random.Random(43)
        for round_ in range(60):
            places = [chance.choice((NOWHERE, Place(1), Place(2), Place(90), Place(500), Place(10 ** 4)))
                      for card in range(chance.randrange(40)) for twice in range(chance.choice((1, 2)))]
            line = chance.choice((0, 1, 700, 10 ** 4))
            codes = pairs_written(places, line=line)
            behind = read_by_the_document(codes, line)[1]
            self.goes_back(codes, behind, places[::-1], line)


if __name__ == "__main__":
    unittest.main()
