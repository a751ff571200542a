import random
import unittest

from cardlines.joining import cut, joined, table_turned
from cardlines.leading import COPIES, HEADS
from cardlines.places import Place
from cardlines.runs import strip_in
from cardlines.tables import read, written
from tests.document import turned_by_the_document
from tests.strips import NOWHERE, PART, anothers_table, row_of_turns, strip
from tests.things import refusal

MAKES = (COPIES, HEADS)
MILLION = 10 ** 6


def moved_by_the_document(places, by):
    return [place if place.line is None else
            Place(place.line + by, place.last + by, begin=place.begin, end=place.end) for place in places]


class Joined(unittest.TestCase):
    def joins(self, one, other, wanted, **named):
        for first, second in ((one, other), (tuple(one), tuple(other))):
            told = joined(first, second, **named)
            self.assertIs(type(told), list)
            self.assertEqual(told, wanted)
            self.assertEqual(joined(other=second, one=first, **named), wanted)

    def test_known(self):
        one, other = written(strip_in("1 -")), written(strip_in("2 3.1-5 -"))
        self.joins(one, other, written(strip_in("1 - 2 3.1-5 -")))
        self.joins(one, other, written(strip_in("1 - 2 3.1-5 -")), by=0)
        self.joins(one, other, written(strip_in("1 - 9 10.1-5 -")), by=7)
        self.joins(one, other, written(strip_in("1 - 1 2.1-5 -")), by=-1)
        self.joins(one, [], one, by=9)
        self.joins([], other, written(strip_in("9 10.1-5 -")), by=7)
        self.joins([], [], [], by=-MILLION)

    def test_makes_and_every(self):
        chance = random.Random(70)
        for round_ in range(25):
            first, second = strip(chance, chance.randrange(40)), strip(chance, chance.randrange(40))
            second = [place for place in second if place.line != MILLION]
            one = written(first, make=chance.choice(MAKES), every=chance.randrange(1, 17))
            other = written(second, make=chance.choice(MAKES), every=chance.randrange(1, 17))
            for make in MAKES:
                for every in (1, 5, 16):
                    by = chance.choice((0, 1, 77, 990000))
                    wanted = written(first + moved_by_the_document(second, by), make=make, every=every)
                    self.joins(one, other, wanted, by=by, make=make, every=every)
            self.joins(one, other, written(first + second, make="copies", every=16))

    def test_tables_that_others_wrote(self):
        chance = random.Random(71)
        for round_ in range(30):
            (one, first), (other, second) = anothers_table(chance), anothers_table(chance)
            if max([place.last or 0 for place in second]) < MILLION - 50:
                self.joins(one, other, written(first + moved_by_the_document(second, 50)), by=50)

    def test_refused_as_moved(self):
        for text, by, part in (("1", -1, "line"), ("5 3 9", -3, "line"), ("5 3 9", -MILLION, "line"),
                               ("1000000", 1, "line"), ("- 4 999999.1-1000000.2", 1, "last"), ("4", MILLION, "line"),
                               ("999950.1-999990.2 4", 11, "last"), ("999950.1-999990.2 4", 51, "line"),
                               ("999950.1-999990.2 1000000", 11, "last"), ("1000000 999950.1-999990.2", 11, "line")):
            codes = written(strip_in(text))
            self.assertEqual(refusal(joined, [], codes, by=by), ("BadPlace", "part", part))
            self.assertEqual(refusal(joined, codes, tuple(codes), by=by, make=HEADS), ("BadPlace", "part", part))
            self.assertIsNone(refusal(joined, codes, [], by=by))
        self.joins([], written([Place(1)]), written([Place(MILLION)]), by=MILLION - 1)
        self.joins([], written([Place(MILLION)]), written([Place(1)]), by=1 - MILLION)
        self.joins([], written([NOWHERE]), written([NOWHERE]), by=MILLION)
        self.joins([], written([NOWHERE]), written([NOWHERE]), by=-MILLION)

    def test_to_160_cards(self):
        chance = random.Random(72)
        places = [place for place in strip(chance, 400) if place.line != MILLION][:160]
        self.joins(written(places[:80]), written(places[80:], every=1), written(places))
        self.joins(written(places[:159]), written(places[159:]), written(places))
        self.joins([], written(places), written(moved_by_the_document(places, 5), every=3), by=5, every=3)

    def test_by_name_alone(self):
        for ask in (lambda: joined([], [], 0), lambda: cut([255, 0, 0, 128], 0, 0, COPIES),
                    lambda: table_turned([], [], COPIES)):
            with self.assertRaises(TypeError):
                ask()


class Cut(unittest.TestCase):
    def test_all_cuts(self):
        places = strip_in("1 2*- 3.1-5 4.2-6.0 700 -")
        for codes in (written(places), tuple(written(places, make=HEADS, every=3))):
            for first in range(7):
                for last in range(first, 7):
                    wanted = written(places[first:last + 1])
                    self.assertEqual(cut(codes, first, last), wanted)
                    self.assertEqual(cut(last=last, codes=codes, first=first), wanted)
                    self.assertIs(type(cut(codes, first, last)), list)
                    self.assertEqual(read(wanted), places[first:last + 1])

    def test_makes_and_every(self):
        chance = random.Random(73)
        for round_ in range(25):
            places = strip(chance, chance.randrange(1, 60))
            first = chance.randrange(len(places))
            last = chance.randrange(first, len(places))
            for make in MAKES:
                for every in (1, 7, 16):
                    self.assertEqual(cut(written(places, every=every), first, last, make=make, every=every),
                                     written(places[first:last + 1], make=make, every=every))

    def test_both_ends_of_160_cards(self):
        places = strip(random.Random(74), 160)
        codes = written(places)
        for first, last in ((0, 159), (0, 0), (159, 159), (1, 158), (15, 16)):
            self.assertEqual(cut(codes, first, last), written(places[first:last + 1]))

    def test_refused(self):
        codes = written([Place(line) for line in range(1, 8)])
        for first, last, card in ((7, 7, 7), (7, 3, 7), (7, 9, 7), (0, 7, 7), (6, 8, 8), (0, MILLION, MILLION),
                                  (MILLION, 0, MILLION), (5, 4, 4), (6, 0, 0), (1, 0, 0), (-1, 3, -1), (3, -1, -1),
                                  (-1, -1, -1), (-2, -1, -2), (9, 8, 9)):
            self.assertEqual(refusal(cut, codes, first, last), ("NoCard", "card", card), (first, last))
            self.assertEqual(refusal(cut, tuple(codes), first, last, make=HEADS, every=2), ("NoCard", "card", card))
        self.assertEqual(refusal(cut, [], 0, 0), ("NoCard", "card", 0))
        self.assertEqual(refusal(cut, [], 3, 2), ("NoCard", "card", 3))


class TableTurned(unittest.TestCase):
    def test_written_of_turned(self):
        chance = random.Random(75)
        for round_ in range(25):
            places = strip(chance, chance.choice((0, 1, 17, 60)))
            turns = row_of_turns(chance, places, chance.randrange(6))
            behind = turned_by_the_document(places, turns)[0]
            for make in MAKES:
                every = chance.randrange(1, 17)
                codes = written(places, make=chance.choice(MAKES), every=chance.randrange(1, 17))
                wanted = written(behind, make=make, every=every)
                self.assertEqual(table_turned(codes, turns, make=make, every=every), wanted)
                self.assertEqual(table_turned(every=every, make=make, turns=tuple(turns), codes=tuple(codes)), wanted)
            self.assertEqual(table_turned(codes, turns), written(behind))
            self.assertIs(type(table_turned(codes, turns)), list)

    def test_without_turns(self):
        codes = written([PART] * 20, every=3)
        self.assertEqual(table_turned(codes, []), written([PART] * 20))
        self.assertEqual(table_turned([], ()), [])
        self.assertEqual(table_turned([], [("put", 0, (PART,))]), written([PART]))
        self.assertEqual(table_turned(codes, [("take", 0, 20)]), [])

    def test_bounds(self):
        chance = random.Random(76)
        places = strip(chance, 160)
        turns = row_of_turns(chance, places, 40)
        self.assertEqual(table_turned(written(places), turns), written(turned_by_the_document(places, turns)[0]))

    def test_refused(self):
        codes = written([PART] * 7 + [Place(MILLION)])
        for turn in (None, ["take", 0, 1], ("take", 8, 1), ("put", 9, (PART,)), ("put", 0, (PART,) * 153),
                     ("lines", 9, 0, 1), ("move", 0, 2, 1), ("lines", 1)):
            self.assertEqual(refusal(table_turned, codes, [turn]), ("BadTurn", "number", 0))
            self.assertEqual(refusal(table_turned, tuple(codes), (("one", 0, 2), ("put", 7, (PART,)), turn), make=HEADS),
                             ("BadTurn", "number", 2))


if __name__ == "__main__":
    unittest.main()
