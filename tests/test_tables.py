import itertools
import random
import unittest

from cardlines.errors import Torn
from cardlines.figures import number_bytes
from cardlines.leading import COPIES, HEADS
from cardlines.least import least_entries
from cardlines.places import Place
from cardlines.tables import marks_of, read, tear_of, written
from tests.document import bytes_of, figures_by_the_document, table_by_the_document
from tests.strips import LONG, NOWHERE, PART, anothers_table, strip
from tests.things import forms

MAKES = (COPIES, HEADS)


class Written(unittest.TestCase):
    def test_known(self):
        for make in MAKES:
            self.assertEqual(written([], make=make), [])
            self.assertEqual(written([Place(1)], make=make), [255, 0, 0, 160])
            self.assertEqual(written([Place(9)] * 3, make=make), [255, 0, 8, 162])
            self.assertEqual(written([NOWHERE], make=make), [255, 0, 0, 128])
            self.assertEqual(written([NOWHERE, Place(66)], make=make), [255, 0, 65, 1, 128, 160])
            self.assertEqual(written([Place(3, begin=4, end=9)], make=make), [255, 0, 2, 192, 2, 4, 5])
            self.assertEqual(written([LONG], make=make), [255, 0, 2, 208, 2, 0, 5, 1])
        rising = [Place(line) for line in range(1, 19)]
        self.assertEqual(written(rising), [255, 0, 0, 160, 238, 0, 2, 255, 16, 16, 160, 160])
        self.assertEqual(written(rising, make=HEADS), [255, 0, 0] + [160] * 16 + [255, 16, 16, 160, 160])
        self.assertEqual(written(rising[:5], every=2), [255, 0, 0, 160, 160, 255, 2, 2, 160, 160, 255, 4, 4, 160])
        self.assertEqual(written([NOWHERE] * 4, every=3), [255, 0, 0, 130, 255, 3, 0, 128])

    def test_kinds_and_names(self):
        places = [Place(line) for line in range(1, 40)]
        self.assertIs(type(written(places)), list)
        self.assertEqual(written(places), written(tuple(places), make="copies", every=16))
        self.assertEqual(written(every=3, make="heads", places=places), written(places, make=HEADS, every=3))
        for given in ((places, COPIES), (places, COPIES, 16)):
            with self.assertRaises(TypeError):
                written(*given)

    def test_segments_of_every_cards(self):
        chance = random.Random(10)
        for every in range(1, 17):
            for many in (0, 1, every - 1, every, every + 1, 3 * every, 3 * every + 1, 40):
                places = strip(chance, many)
                for make in MAKES:
                    self.assertEqual(written(places, make=make, every=every), self.by_the_document(places, make, every))

    def by_the_document(self, places, make, every):
        codes = []
        for card in range(0, len(places), every):
            cards = places[card:card + every]
            ahead = ([place.line - 1 for place in cards if place.line is not None] or [0])[0]
            codes += [255] + figures_by_the_document(card) + figures_by_the_document(ahead)
            codes += bytes_of(least_entries(cards, line=ahead, make=make))
        return codes

    def test_nothing_reaches_ahead_of_its_segment(self):
        for every in range(1, 17):
            codes = written([PART] * 33, every=every)
            for card, at in marks_of(codes):
                self.assertEqual(codes[at + 2:at + 4], [1, 192 + min(every, 33 - card) - 1])

    def test_every_somewhat_beyond_is_not_refused(self):
        self.assertEqual(written([PART] * 3, every=0), written([PART] * 3, every=1))
        self.assertEqual(written([PART] * 3, every=17), written([PART] * 3))


class Read(unittest.TestCase):
    def test_back_to_the_places(self):
        chance = random.Random(11)
        for every in range(1, 17):
            for many in (0, 1, 2, 15, 16, 17, 50):
                places = strip(chance, many)
                for make in MAKES:
                    codes = written(places, make=make, every=every)
                    for given in (codes, tuple(codes)):
                        told = read(given)
                        self.assertIs(type(told), list)
                        self.assertEqual(told, places)
                        self.assertIsNone(tear_of(given))
                    self.assertEqual(read(codes=codes), places)
                    self.assertEqual(marks_of(codes), [mark[:2] for mark in table_by_the_document(codes)])

    def test_tables_that_others_wrote(self):
        chance = random.Random(12)
        for round_ in range(400):
            codes, places = anothers_table(chance)
            self.assertEqual(read(codes), places)
            self.assertIsNone(tear_of(codes))
            self.assertEqual(marks_of(codes), [mark[:2] for mark in table_by_the_document(codes)])

    def test_no_bytes(self):
        self.assertEqual(read([]), [])
        self.assertEqual(read(()), [])
        self.assertIsNone(tear_of([]))
        self.assertEqual(marks_of([]), [])

    def test_other_lines_ahead(self):
        top = number_bytes(10 ** 6)
        self.assertEqual(read([255, 0] + top + [176, 0]), [Place(10 ** 6)])
        self.assertEqual(read([255, 0] + top + [128]), [NOWHERE])
        self.assertEqual(read([255, 0, 9, 176, 1, 144]), [Place(8), Place(8)])

    def test_sixteen_cards_by_many_entries(self):
        self.assertEqual(read([255, 0, 0] + [160] * 16), [Place(line) for line in range(1, 17)])
        self.assertEqual(read([255, 0, 0] + [128] * 16 + [255, 16, 0, 128]), [NOWHERE] * 17)

    def test_at_the_bounds(self):
        chance = random.Random(13)
        every_form = forms()
        places = [chance.choice(every_form) for card in range(160)]
        for make, every in itertools.product(MAKES, (1, 2, 15, 16)):
            codes = written(places, make=make, every=every)
            self.assertEqual(read(codes), places)
            self.assertEqual([card for card, at in marks_of(codes)], list(range(0, 160, every)))
        for many in (2000, 1000):
            codes = written([Place(5)] * many)
            self.assertLessEqual(len(codes), 2000)
            self.assertEqual(read(codes), [Place(5)] * many)
        self.assertEqual(read(written([NOWHERE] * 160, every=1)), [NOWHERE] * 160)


class MarksOf(unittest.TestCase):
    def test_known(self):
        places = [Place(line) for line in range(1, 6)]
        told = marks_of(written(places, every=2))
        self.assertEqual(told, [(0, 0), (2, 5), (4, 10)])
        self.assertIs(type(told), list)
        self.assertIs(type(told[0]), tuple)
        self.assertEqual(marks_of(codes=(255, 0, 0, 160)), [(0, 0)])


class Refused(unittest.TestCase):
    def torn(self, codes, at):
        for row in (list(codes), tuple(codes)):
            with self.assertRaises(Torn) as caught:
                read(row)
            self.assertEqual(caught.exception.at, at)
            self.assertEqual(tear_of(row), at)
        self.assertEqual(tear_of(codes=codes), at)
        self.assertEqual(table_by_the_document(codes), at)

    def test_no_segment(self):
        for code in range(255):
            self.torn([code], 0)
            self.torn([code, 255, 0, 0, 128], 0)

    def test_first_card(self):
        self.torn([255], 1)
        self.torn([255, 255, 0, 0, 128], 1)
        self.torn([255, 128], 1)
        self.torn([255, 64], 2)
        self.torn([255, 64, 0, 0, 128], 2)
        self.torn([255, 64, 64, 64, 64, 1], 4)
        self.torn([255, 1, 0, 128], 1)
        # Another card goes ahead of what is wrong with the line.
        self.torn([255, 1, 255], 1)
        self.torn([255, 65, 1, 0, 128], 1)
        self.torn([255, 0, 0, 129, 255, 1, 0, 128], 5)
        self.torn([255, 0, 0, 129, 255, 3, 0, 128], 5)
        self.torn([255, 0, 0, 129, 255, 0, 0, 128], 5)
        self.torn([255, 0, 0, 129, 255], 5)
        self.torn([255, 0, 0, 129, 255, 66], 6)

    def test_line_ahead(self):
        self.torn([255, 0], 2)
        self.torn([255, 0, 255, 128], 2)
        self.torn([255, 0, 200, 128], 2)
        self.torn([255, 0, 64, 0, 128], 3)
        self.torn([255, 0, 64, 64, 64], 5)
        self.torn([255, 0, 64, 64, 64, 64, 1], 5)
        self.torn([255, 0] + number_bytes(10 ** 6 + 1) + [128], 2)
        self.torn([255, 0] + number_bytes(64 ** 4 - 1) + [128], 2)
        self.torn([255, 0] + number_bytes(10 ** 6 + 1), 2)
        self.assertEqual(read([255, 0] + number_bytes(10 ** 6) + [128]), [NOWHERE])

    def test_no_entry(self):
        self.torn([255, 0, 0], 3)
        self.torn([255, 0, 0, 255, 0, 0, 128], 3)
        self.torn([255, 0, 65, 1], 4)
        self.torn([255, 0, 0, 128, 255, 1, 0], 7)
        self.torn([255, 0, 0, 128, 255, 1, 0, 255, 1, 0, 128], 7)

    def test_in_an_entry(self):
        for code in (*range(128), *range(240, 255)):
            self.torn([255, 0, 0, code], 3)
            self.torn([255, 0, 0, 128, code], 4)
            self.torn([255, 0, 0, 143, code], 4)
        self.torn([255, 0, 0, 176], 4)
        self.torn([255, 0, 0, 176, 255, 1, 0, 128], 4)
        self.torn([255, 0, 0, 176, 66, 0], 5)
        self.torn([255, 0, 0, 192, 2, 4], 6)
        self.torn([255, 0, 0, 192, 2] + number_bytes(10001) + [0], 5)
        self.torn([255, 0, 0, 176] + number_bytes(2 * 10 ** 6 + 1), 4)
        self.torn([255, 0, 0, 128, 224, 15, 0], 5)

    def test_an_entry_that_cannot_stand(self):
        self.torn([255, 0, 0, 144], 3)
        self.torn([255, 0, 0, 224, 0, 0], 3)
        self.torn([255, 0, 0, 160, 224, 1, 0], 4)
        self.torn([255, 0, 0, 176, 0], 3)
        self.torn([255, 0, 0, 176, 1], 3)
        self.torn([255, 0] + number_bytes(10 ** 6) + [160], 6)
        self.torn([255, 0, 0, 192, 2, 1] + number_bytes(10 ** 4), 3)
        self.torn([255, 0, 0, 208, 0, 0, 0, 0], 3)
        self.torn([255, 0, 5, 160, 225, 0, 7], 4)

    def test_same_and_copy_reach_to_no_card_ahead_of_the_segment(self):
        self.torn([255, 0, 0, 160, 255, 1, 0, 144], 7)
        self.torn([255, 0, 0, 160, 255, 1, 0, 224, 0, 0], 7)
        self.torn([255, 0, 0, 175, 255, 16, 0, 129, 224, 2, 0], 8)

    def test_the_line_ahead_is_the_segments_own(self):
        self.assertEqual(read([255, 0, 8, 160, 255, 1, 0, 160]), [Place(9), Place(1)])
        self.torn([255, 0, 8, 160, 255, 1, 0, 176, 0], 7)

    def test_more_than_sixteen_cards(self):
        self.torn([255, 0, 0, 143, 128], 4)
        self.torn([255, 0, 0, 128, 143], 4)
        self.torn([255, 0, 0] + [128] * 17, 19)
        self.torn([255, 0, 0, 142, 129], 4)
        self.torn([255, 0, 0, 128, 239, 0, 0], 4)
        self.torn([255, 0, 0, 160, 159], 4)
        # The entry is read as such first, and is refused where it isn't so written.
        self.torn([255, 0, 0, 142, 177], 5)
        self.torn([255, 0, 0, 143, 176], 5)
        self.torn([255, 0, 0, 143, 176, 200], 5)

    def test_first_of_several(self):
        self.torn([255, 0, 0, 128, 144, 176, 0, 7], 5)
        self.torn([255, 0, 0, 128, 144, 176, 2, 7, 144], 7)
        self.torn([255, 0, 0, 144, 255, 9, 0], 3)
        self.torn([255, 0, 0, 128, 0, 255, 9, 0], 4)


class BentTables(unittest.TestCase):
    def asked(self, codes):
        wanted = table_by_the_document(codes)
        if isinstance(wanted, int):
            self.assertEqual(tear_of(codes), wanted, f"{codes}")
            with self.assertRaises(Torn) as caught:
                read(codes)
            self.assertEqual(caught.exception.at, wanted)
            return 0
        self.assertIsNone(tear_of(codes), f"{codes}")
        self.assertEqual(read(codes), [place for card, at, places in wanted for place in places])
        self.assertEqual(marks_of(codes), [mark[:2] for mark in wanted])
        return 1

    def tables(self):
        chance = random.Random(14)
        told = [written(strip(chance, many), make=make, every=every)
                for many, make, every in ((5, COPIES, 16), (20, COPIES, 16), (9, HEADS, 3), (33, COPIES, 16))]
        return told + [anothers_table(chance)[0] for round_ in range(4)]

    def test_cut_off(self):
        for codes in self.tables():
            for many in range(len(codes) + 1):
                self.asked(codes[:many])
                self.asked(codes[many:])

    def test_each_byte_bent(self):
        right = 0
        for codes in self.tables():
            for at in range(len(codes)):
                for code in (0, 1, 2, 63, 64, 65, 127, 128, 143, 144, 160, 175, 176, 192, 208, 224, 239, 240, 254, 255):
                    right += self.asked(codes[:at] + [code] + codes[at + 1:])
                self.asked(codes[:at] + codes[at + 1:])
                for code in (0, 64, 128, 160, 255):
                    self.asked(codes[:at] + [code] + codes[at:])
        self.assertGreater(right, 100)

    def test_any_bytes(self):
        chance = random.Random(15)
        likely = (0, 0, 0, 1, 2, 16, 64, 128, 129, 143, 144, 160, 176, 192, 224, 240, 255)
        for round_ in range(4000):
            self.asked([255, 0, 0][:chance.randrange(4)] + [chance.choice(likely) for at in range(chance.randrange(12))])
        for round_ in range(300):
            self.asked([chance.randrange(256) for at in range(chance.choice((1, 5, 2000)))])


if __name__ == "__main__":
    unittest.main()
