import copy
import random
import unittest

from cardlines.errors import NoCard, Torn
from cardlines.places import Place
from cardlines.reader import Reader
from cardlines.runs import run_at
from cardlines.tables import read, tear_of, written
from tests.strips import LONG, NOWHERE, PART, anothers_table, strip

# Runs: cards 0 to 2, 3, 4 and 5, 6.
PLACES = [Place(3)] * 3 + [PART] + [NOWHERE] * 2 + [Place(3)]
CODES = written(PLACES)


def on_card(card, codes=CODES):
    reader = Reader(codes)
    reader.seek(card)
    return reader


class Made(unittest.TestCase):
    def test_stands_on_the_first_card(self):
        for codes in (CODES, tuple(CODES)):
            for reader in (Reader(codes), Reader(codes=codes)):
                self.assertEqual(reader.on(), 0)
                self.assertEqual(reader.here(), Place(3))

    def test_of_no_cards(self):
        reader = Reader([])
        self.assertEqual([reader.on(), reader.here(), reader.run(), len(reader)], [0, None, None, 0])
        self.assertEqual([reader.forth(), reader.back(), reader.skip(), reader.skip(back=True)], [0, 0, 0, 0])
        self.assertEqual([reader.forth(many=9), reader.back(many=9), reader.on()], [0, 0, 0])
        self.assertIs(reader.seek(0), None)
        with self.assertRaises(NoCard):
            reader.seek(1)
        self.assertEqual((str(reader), repr(reader), bool(reader)), ("end", "Reader(0 of 0)", False))

    def test_refused_as_read(self):
        for codes in ([0], [255], [255, 1, 0, 128], [255, 0, 0], [255, 0, 0, 144], CODES[:2], CODES + [176], CODES + [0], CODES + CODES):
            with self.assertRaises(Torn) as caught:
                Reader(codes)
            self.assertEqual(caught.exception.at, tear_of(codes))
            with self.assertRaises(Torn) as again:
                read(codes)
            self.assertEqual(caught.exception.at, again.exception.at)

    def test_tables_that_others_wrote(self):
        chance = random.Random(30)
        for round_ in range(50):
            codes, places = anothers_table(chance)
            reader = Reader(codes)
            self.assertEqual(len(reader), len(places))
            for place in places:
                self.assertEqual(reader.here(), place)
                reader.forth()
            self.assertIsNone(reader.here())


class Going(unittest.TestCase):
    def test_on_and_here(self):
        for card, place in enumerate(PLACES):
            self.assertEqual((on_card(card).on(), on_card(card).here()), (card, place))
        self.assertEqual((on_card(7).on(), on_card(7).here()), (7, None))

    def test_forth(self):
        for card in range(8):
            for many in range(12):
                reader = on_card(card)
                self.assertEqual(reader.forth(many=many), min(many, 7 - card))
                self.assertEqual(reader.on(), min(card + many, 7))
            reader = on_card(card)
            self.assertEqual(reader.forth(), 1 if card < 7 else 0)
            self.assertEqual(reader.on(), min(card + 1, 7))
        self.assertEqual(on_card(2).forth(many=10 ** 6), 5)

    def test_back(self):
        for card in range(8):
            for many in range(12):
                reader = on_card(card)
                self.assertEqual(reader.back(many=many), min(many, card))
                self.assertEqual(reader.on(), max(card - many, 0))
            reader = on_card(card)
            self.assertEqual(reader.back(), 1 if card > 0 else 0)
            self.assertEqual(reader.on(), max(card - 1, 0))
        self.assertEqual(on_card(7).back(many=10 ** 6), 7)

    def test_by_name_alone(self):
        reader = on_card(3)
        for ask in (reader.forth, reader.back, reader.skip):
            with self.assertRaises(TypeError):
                ask(1)
        self.assertEqual(reader.on(), 3)

    def test_below_nought_nothing_is_gone(self):
        reader = on_card(3)
        self.assertEqual([reader.forth(many=-1), reader.back(many=-1), reader.on()], [0, 0, 3])

    def test_seek(self):
        reader = Reader(CODES)
        for card in (5, 0, 7, 7, 3):
            self.assertIs(reader.seek(card), None)
            self.assertEqual(reader.on(), card)
        self.assertIs(reader.seek(card=6), None)
        for card in (8, 9, 160, 10 ** 6, -1, -7):
            with self.assertRaises(NoCard) as caught:
                reader.seek(card)
            self.assertEqual(caught.exception.card, card)
            self.assertEqual(reader.on(), 6)

    def test_run(self):
        wanted = [(0, 2, Place(3))] * 3 + [(3, 3, PART)] + [(4, 5, NOWHERE)] * 2 + [(6, 6, Place(3)), None]
        for card, run in enumerate(wanted):
            reader = on_card(card)
            self.assertEqual(reader.run(), run)
            self.assertEqual(reader.on(), card)
            self.assertIs(type(reader.run()), type(run))

    def test_skip(self):
        for card, behind in enumerate((3, 3, 3, 4, 6, 6, 7, 7)):
            for named in ({}, {"back": False}):
                reader = on_card(card)
                self.assertEqual(reader.skip(**named), behind - card)
                self.assertEqual(reader.on(), behind)

    def test_skip_back(self):
        for card, begin in enumerate((0, 1, 2, 0, 3, 3, 4, 6)):
            reader = on_card(card)
            self.assertEqual(reader.skip(back=True), card - begin)
            self.assertEqual(reader.on(), begin)

    def test_runs_over_several_segments(self):
        codes = written([PART] * 40 + [LONG] * 30, every=7)
        reader = Reader(codes)
        self.assertEqual(reader.run(), (0, 39, PART))
        self.assertEqual([reader.skip(), reader.run(), reader.skip(), reader.run()], [40, (40, 69, LONG), 30, None])
        self.assertEqual([reader.skip(back=True), reader.skip(back=True), reader.skip(back=True)], [30, 40, 0])

    def test_rows_of_moves(self):
        chance = random.Random(31)
        for round_ in range(60):
            places = strip(chance, chance.choice((1, 2, 17, 40)))
            reader = Reader(written(places, every=chance.randrange(1, 17)))
            card = 0
            for move in range(60):
                way = chance.randrange(5)
                many = chance.choice((0, 1, 1, 2, 5, 100))
                if way == 0:
                    to, told = min(card + many, len(places)), reader.forth(many=many)
                elif way == 1:
                    to, told = max(card - many, 0), reader.back(many=many)
                elif way == 2:
                    to = card if card == len(places) else run_at(places, card)[1] + 1
                    told = reader.skip()
                elif way == 3:
                    to = self.back_from(places, card)
                    told = reader.skip(back=True)
                else:
                    to = chance.randrange(len(places) + 1)
                    told = reader.seek(to)
                    card = to
                    self.assertIsNone(told)
                    told = 0
                self.assertEqual(told, abs(to - card))
                card = to
                self.assertEqual(reader.on(), card)
                self.assertEqual(reader.here(), places[card] if card < len(places) else None)

    def back_from(self, places, card):
        """Point [11]: the first card of the run ahead of a card's own, told card by card."""
        begin = card
        while begin > 0 and card < len(places) and places[begin - 1] == places[card]:
            begin -= 1
        if begin == 0:
            return card
        ahead = begin - 1
        while ahead > 0 and places[ahead - 1] == places[begin - 1]:
            ahead -= 1
        return ahead


class Told(unittest.TestCase):
    def test_len_and_bool(self):
        for many in (0, 1, 16, 17, 160):
            reader = Reader(written([PART] * many))
            self.assertEqual(len(reader), many)
            self.assertIs(bool(reader), many > 0)
            reader.forth(many=many)
            self.assertEqual(len(reader), many)
            self.assertIs(bool(reader), many > 0)

    def test_equal(self):
        one, other = Reader(CODES), Reader(written(PLACES, make="heads", every=2))
        other.forth(many=3)
        self.assertTrue(one == other)
        self.assertFalse(one != other)
        for places in ([], PLACES[:-1], PLACES + [NOWHERE], [Place(4)] + PLACES[1:], PLACES[::-1]):
            self.assertFalse(one == Reader(written(places)))
            self.assertTrue(one != Reader(written(places)))
        self.assertTrue(Reader([]) == Reader([]))
        for thing in (None, 0, 7, True, "Reader(0 of 7)", PLACES, tuple(PLACES), CODES, Place(3), [], ""):
            self.assertFalse(one == thing)
            self.assertTrue(one != thing)
            self.assertFalse(thing == one)
        self.assertFalse(Reader([]) == [])

    def test_repr_and_str(self):
        for card, text in enumerate(("3", "3", "3", "2.1-3", "-", "-", "3", "end")):
            reader = on_card(card)
            self.assertEqual(repr(reader), f"Reader({card} of 7)")
            self.assertEqual(str(reader), text)
        reader = Reader(written([LONG] * 12))
        reader.forth(many=3)
        self.assertEqual((repr(reader), str(reader)), ("Reader(3 of 12)", "3.5-4.1"))

    def test_asks_change_nothing(self):
        for card in range(8):
            reader = on_card(card)
            reader.on(), reader.here(), reader.run(), len(reader), str(reader), repr(reader), reader == Reader([])
            self.assertEqual(reader.on(), card)
            self.assertTrue(reader == Reader(CODES))


class OfItsOwn(unittest.TestCase):
    def test_readers_of_one_list(self):
        codes = list(CODES)
        one, other = Reader(codes), Reader(codes)
        one.forth(many=5)
        self.assertEqual((one.on(), other.on()), (5, 0))
        other.seek(7)
        self.assertEqual((one.on(), other.on()), (5, 7))
        one.skip(back=True)
        self.assertEqual((one.on(), other.on()), (3, 7))
        self.assertEqual(codes, CODES)

    def test_the_list_is_not_kept(self):
        codes = list(CODES)
        reader = Reader(codes)
        ahead = copy.deepcopy(codes)
        reader.forth(many=3), reader.run(), reader.skip(), reader.back()
        self.assertEqual(codes, ahead)
        codes.clear()
        codes.extend([1, 2, 3])
        self.assertEqual(len(reader), 7)
        reader.seek(3)
        self.assertEqual((reader.here(), reader.run()), (PART, (3, 3, PART)))
        self.assertTrue(reader == Reader(CODES))

    def test_methods_stand_in_the_class_itself(self):
        for name in ("__init__", "on", "here", "forth", "back", "seek", "run", "skip", "__len__", "__eq__", "__str__",
                     "__repr__"):
            self.assertIn(name, vars(Reader))


if __name__ == "__main__":
    unittest.main()
