import random
import unittest

from cardlines.errors import NoCard
from cardlines.figures import number_bytes
from cardlines.leading import COPIES, HEADS
from cardlines.places import Place
from cardlines.reading import place_at, read_from, saved
from cardlines.tables import marks_of, written
from tests.document import read_from_by_the_document, saved_by_the_document
from tests.strips import NOWHERE, PART, anothers_table, segment, strip

# Three right segments, one behind the other: cards 0 and 1, 2, 3 to 5.
FIRST = [255, 0, 0, 160, 160]
SECOND = [255, 2, 6, 160]
THIRD = [255, 3, 0, 130]
WHOLE = FIRST + SECOND + THIRD
LED = [Place(1), Place(2), Place(7), NOWHERE, NOWHERE, NOWHERE]


class Saved(unittest.TestCase):
    def saves(self, codes, wanted):
        for row in (list(codes), tuple(codes)):
            told = saved(row)
            self.assertIs(type(told), list)
            for one in told:
                self.assertEqual([type(one), type(one[2])], [tuple, list])
            self.assertEqual(told, wanted)
            self.assertEqual(saved(codes=row), wanted)

    def test_of_a_table(self):
        self.saves([], [])
        self.saves(WHOLE, [(0, 0, LED[:2]), (5, 2, LED[2:3]), (9, 3, LED[3:])])

    def test_whatever_stands_around(self):
        self.saves([7, 200, 254] + FIRST, [(3, 0, LED[:2])])
        self.saves([7, 255] + FIRST, [(2, 0, LED[:2])])
        self.saves(FIRST + [255], [(0, 0, LED[:2])])
        self.saves(FIRST + [7], [])
        self.saves(FIRST + [7] + SECOND, [(6, 2, LED[2:3])])
        self.saves([0, 1, 2, 128, 160, 254], [])
        self.saves([255] * 9, [])

    def test_whatever_the_first_card_is(self):
        for card in (0, 1, 159, 10 ** 6, 64 ** 4 - 1):
            self.saves([255] + number_bytes(card) + [0, 160], [(0, card, [Place(1)])])

    def test_several_tell_one_card(self):
        self.saves(FIRST + FIRST, [(0, 0, LED[:2]), (5, 0, LED[:2])])
        self.saves(THIRD + FIRST, [(0, 3, LED[3:]), (4, 0, LED[:2])])
        self.saves([255, 0, 0, 129] + [255, 1, 0, 160], [(0, 0, [NOWHERE] * 2), (4, 1, [Place(1)])])

    def test_not_right(self):
        for bad in ([255, 2], [255, 2, 6], [255, 128, 6, 160], [255, 66, 0, 6, 160], [255, 2, 6, 144],
                    [255, 2, 6, 176], [255, 2, 6, 160, 0], [255, 2, 6, 160, 240], [255, 2, 0, 143, 128],
                    [255, 2] + number_bytes(10 ** 6 + 1) + [128]):
            self.saves(FIRST + bad + THIRD, [(0, 0, LED[:2]), (5 + len(bad), 3, LED[3:])])


class PlaceAt(unittest.TestCase):
    def refused(self, codes, card):
        with self.assertRaises(NoCard) as caught:
            place_at(codes, card)
        self.assertEqual(caught.exception.card, card)

    def test_of_a_table(self):
        for card, place in enumerate(LED):
            self.assertEqual(place_at(WHOLE, card), place)
            self.assertEqual(place_at(card=card, codes=tuple(WHOLE)), place)
        for card in (6, 7, 160, 10 ** 6, -1):
            self.refused(WHOLE, card)

    def test_none_has_it(self):
        self.refused([], 0)
        self.refused([1, 2, 3], 0)
        self.refused(FIRST + THIRD, 2)
        self.refused(FIRST + SECOND[:-1] + THIRD, 2)
        self.assertEqual(place_at(FIRST + SECOND[:-1] + THIRD, 3), NOWHERE)

    def test_the_first_right_segment_that_has_it(self):
        other = [255, 0, 40, 160, 160]
        self.assertEqual(place_at(FIRST + other, 1), Place(2))
        self.assertEqual(place_at(other + FIRST, 1), Place(42))
        self.assertEqual(place_at(other + [7] + FIRST, 1), Place(2))
        self.assertEqual(place_at([255, 1, 8, 160] + FIRST, 0), Place(1))
        self.assertEqual(place_at([255, 1, 8, 160] + FIRST, 1), Place(9))


class ReadFrom(unittest.TestCase):
    def reads(self, codes, at, card, places):
        for row in (list(codes), tuple(codes)):
            told = read_from(row, at)
            self.assertEqual([type(told), type(told[1])], [tuple, list])
            self.assertEqual(told, (card, places))
            self.assertEqual(read_from(at=at, codes=row), (card, places))

    def test_from_each_byte_of_a_table(self):
        for at in range(20):
            if at == 0:
                self.reads(WHOLE, at, 0, LED)
            elif at <= 5:
                self.reads(WHOLE, at, 2, LED[2:])
            elif at <= 9:
                self.reads(WHOLE, at, 3, LED[3:])
            else:
                self.reads(WHOLE, at, None, [])

    def test_nothing_is_told(self):
        self.reads([], 0, None, [])
        self.reads([], 5, None, [])
        self.reads([1, 2, 3, 254], 0, None, [])
        self.reads(WHOLE, len(WHOLE), None, [])
        self.reads(WHOLE, 10 ** 6, None, [])
        self.reads(FIRST + [7] + SECOND, 0, None, [])
        self.reads([255] + FIRST, 0, None, [])
        self.reads([255] + FIRST, 1, 0, LED[:2])
        # Somewhat beyond the bounds nothing is refused.
        self.reads([], -1, None, [])
        self.reads(WHOLE, -1, 0, LED)

    def test_as_long_as_it_goes_on(self):
        self.reads(FIRST + THIRD, 0, 0, LED[:2])
        self.reads(FIRST + FIRST, 0, 0, LED[:2])
        self.reads(FIRST + SECOND + [255] + THIRD, 0, 0, LED[:3])
        self.reads(FIRST + SECOND + [9] + THIRD, 0, 0, LED[:2])
        self.reads(FIRST + SECOND + SECOND + THIRD, 0, 0, LED[:3])
        self.reads(FIRST + SECOND + SECOND + THIRD, 6, 2, LED[2:])
        self.reads(SECOND + THIRD + FIRST, 0, 2, LED[2:])
        self.reads([255, 90, 1, 0, 128, 255, 91, 1, 1, 160], 0, 90, [NOWHERE, Place(2)])


class Bent(unittest.TestCase):
    def asked(self, codes):
        wanted = saved_by_the_document(codes)
        self.assertEqual(saved(codes), wanted, f"{codes}")
        for at in range(len(codes) + 3):
            self.assertEqual(read_from(codes, at), read_from_by_the_document(codes, at, wanted), f"{codes} {at}")
        cards = {}
        for at, first, places in wanted:
            for number, place in enumerate(places):
                cards.setdefault(first + number, place)
        for card in {*range(12), *cards}:
            if card in cards:
                self.assertEqual(place_at(codes, card), cards[card], f"{codes} {card}")
            else:
                with self.assertRaises(NoCard) as caught:
                    place_at(codes, card)
                self.assertEqual(caught.exception.card, card)

    def tables(self):
        chance = random.Random(21)
        told = [WHOLE]
        told += [written(strip(chance, many), make=make, every=every)
                 for many, make, every in ((6, COPIES, 2), (9, HEADS, 4), (5, COPIES, 16))]
        return told + [anothers_table(chance)[0][:40] for round_ in range(2)]

    def test_tables_with_bytes_bent(self):
        for codes in self.tables():
            self.asked(codes)
            for at in range(len(codes)):
                for code in (0, 1, 64, 128, 144, 160, 176, 224, 254, 255):
                    self.asked(codes[:at] + [code] + codes[at + 1:])

    def test_cut_off_put_in_and_left_out(self):
        for codes in self.tables():
            for at in range(len(codes) + 1):
                self.asked(codes[:at])
                self.asked(codes[at:])
                self.asked(codes[:at] + codes[at + 1:])
                for code in (0, 65, 128, 255):
                    self.asked(codes[:at] + [code] + codes[at:])

    def test_segments_out_of_order_twice_and_of_other_cards(self):
        chance = random.Random(22)
        for round_ in range(150):
            codes = []
            for number in range(chance.randrange(1, 5)):
                codes += chance.choice(([], [], [7], [255], [128]))
                codes += segment(chance, chance.choice((0, 0, 1, 2, 3, 4, 64)), chance.choice((1, 2, 3)))[0]
            self.asked(codes)

    def test_any_bytes(self):
        chance = random.Random(23)
        for round_ in range(600):
            self.asked([chance.choice((0, 0, 1, 2, 64, 128, 129, 144, 160, 176, 240, 255, 255)) for at in range(14)])
        codes = [chance.randrange(256) for at in range(2000)]
        self.assertEqual(saved(codes), saved_by_the_document(codes))

    def test_whole_tables_from_each_byte(self):
        chance = random.Random(24)
        for make, every in ((COPIES, 16), (HEADS, 16), (COPIES, 1), (COPIES, 5)):
            places = strip(chance, 160)
            codes = written(places, make=make, every=every)
            self.assertEqual(saved(codes), [(at, card, places[card:card + every]) for card, at in marks_of(codes)])
            marks = {at: card for card, at in marks_of(codes)}
            for at in range(len(codes)):
                ahead = [mark for mark in marks if mark >= at]
                wanted = (marks[ahead[0]], places[marks[ahead[0]]:]) if ahead else (None, [])
                self.assertEqual(read_from(codes, at), wanted)
            for card in range(0, 160, 7):
                self.assertEqual(place_at(codes, card), places[card])

    def test_the_rest_of_a_table_with_one_segment_torn(self):
        places = [PART, Place(1), NOWHERE] * 10
        codes = written(places, every=5)
        marks = marks_of(codes)
        for card, at in marks:
            bent = codes[:at + 3] + [254] + codes[at + 4:]
            self.assertEqual([one[1] for one in saved(bent)], [first for first, mark in marks if first != card])
            for number, place in enumerate(places):
                if card <= number < card + 5:
                    with self.assertRaises(NoCard):
                        place_at(bent, number)
                else:
                    self.assertEqual(place_at(bent, number), place)


if __name__ == "__main__":
    unittest.main()
