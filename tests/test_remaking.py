import random
import unittest

from cardlines.figures import number_bytes
from cardlines.leading import COPIES, HEADS
from cardlines.pairs import pairs_read, pairs_written
from cardlines.places import Place
from cardlines.remaking import alike, bared, remade
from cardlines.runs import strip_in
from cardlines.tables import read, written
from tests.strips import LONG, NOWHERE, PART, anothers_table, strip
from tests.things import fields, forms, refusal

MAKES = (COPIES, HEADS)


def bare_strip(chance, many):
    """Places without columns, of lines to 10 ** 4."""
    return [NOWHERE if chance.randrange(4) == 0 else Place(chance.choice((1, 2, 3, 101, 102, 5000, 10 ** 4)))
            for card in range(many)]


class Bared(unittest.TestCase):
    def test_known(self):
        places = strip_in("- 3 3.1-4 5.6-9.0 2*7")
        for row in (places, tuple(places)):
            self.assertEqual(bared(row), strip_in("- 2*3 5 2*7"))
            self.assertIs(type(bared(places=row)), list)
        self.assertEqual(bared([]), [])

    def test_all_forms(self):
        for place in forms():
            (told,) = bared([place])
            self.assertEqual(fields(told), (place.line, place.line, None, None))

    def test_what_is_bare_stays(self):
        chance = random.Random(60)
        places = strip(chance, 160)
        self.assertEqual(bared(bared(places)), bared(places))
        self.assertEqual([str(place) for place in bared(places)], [str(place).split(".")[0] for place in places])


class Remade(unittest.TestCase):
    def test_of_both_makes_and_of_other_segments(self):
        chance = random.Random(61)
        for round_ in range(12):
            places = strip(chance, chance.choice((0, 1, 16, 17, 40)))
            for codes in [written(places, make=make, every=every) for make in MAKES for every in (1, 5, 16)]:
                for make in MAKES:
                    for every in (1, 3, 15, 16):
                        wanted = written(places, make=make, every=every)
                        self.assertEqual(remade(codes, make=make, every=every), wanted)
                        self.assertEqual(read(wanted), places)
                self.assertEqual(remade(codes), written(places, make="heads", every=16))
                self.assertEqual(remade(tuple(codes), make=COPIES), written(places))
                self.assertEqual(remade(every=4, codes=codes), written(places, make=HEADS, every=4))
                self.assertIs(type(remade(codes)), list)

    def test_of_tables_that_others_wrote(self):
        chance = random.Random(62)
        for round_ in range(60):
            codes, places = anothers_table(chance)
            for make in MAKES:
                every = chance.randrange(1, 17)
                self.assertEqual(remade(codes, make=make, every=every), written(places, make=make, every=every))

    def test_by_name_alone(self):
        for given in (([], HEADS), ([], HEADS, 3)):
            with self.assertRaises(TypeError):
                remade(*given)

    def test_to_pairs(self):
        chance = random.Random(63)
        for round_ in range(30):
            places = bare_strip(chance, chance.choice((0, 1, 17, 160)))
            for make in MAKES:
                codes = written(places, make=make, every=chance.randrange(1, 17))
                wanted = pairs_written(places)
                self.assertEqual(remade(codes, make="pairs"), wanted)
                for every in (1, 2, 15, 16):
                    self.assertEqual(remade(codes, make="pairs", every=every), wanted)
                self.assertEqual(pairs_read(wanted), places)
        self.assertEqual(remade([255, 0, 2, 161, 128], make="pairs"), [2, 103, 1, 201])
        self.assertEqual(remade([], make="pairs"), [])

    def test_no_room(self):
        for text, card in (("3.1-2", 0), ("5 - 3.1-2 4.1-9", 2), ("159*5 3.1-4.0", 159), ("- 5.6-6.0", 1)):
            for make in MAKES:
                codes = written(strip_in(text), make=make, every=7)
                self.assertEqual(refusal(remade, codes, make="pairs"), ("NoRoom", "card", card))
                self.assertEqual(refusal(remade, tuple(codes), make="pairs", every=3), ("NoRoom", "card", card))
                self.assertIsNone(refusal(remade, codes, make=HEADS))

    def test_160_cards(self):
        places = strip(random.Random(64), 160)
        codes = written(places, every=1)
        self.assertLessEqual(len(codes), 2000)
        self.assertEqual(remade(codes, make=COPIES), written(places))


class Alike(unittest.TestCase):
    def tells(self, one, other, wanted, **named):
        for first, second in ((one, other), (other, one)):
            self.assertEqual(alike(first, second, **named), wanted)
            self.assertEqual(alike(tuple(first), tuple(second), **named), wanted)
            self.assertEqual(alike(other=second, one=first, **named), wanted)

    def test_the_same_cards(self):
        chance = random.Random(65)
        for round_ in range(20):
            places = strip(chance, chance.choice((0, 1, 16, 17, 50)))
            tables = [written(places, make=make, every=every) for make in MAKES for every in (1, 4, 16)]
            for other in tables:
                self.tells(tables[0], other, None)
                self.tells(tables[0], other, None, columns=True)
                self.tells(tables[0], other, None, columns=False)

    def test_tables_that_others_wrote(self):
        chance = random.Random(66)
        for round_ in range(60):
            codes, places = anothers_table(chance)
            self.tells(codes, written(places), None)
            card = chance.randrange(len(places))
            bent = places[:card] + [Place(77)] + places[card + 1:]
            self.tells(codes, written(bent, make=HEADS), card if places[card] != Place(77) else None)

    def test_other_lines_ahead(self):
        low = [255, 0, 2] + [176, 4]
        self.assertEqual(read(low), [Place(4)])
        for ahead in (0, 3, 4, 900):
            codes = [255, 0] + number_bytes(ahead) + [176] + number_bytes(2 * (4 - ahead) if ahead <= 4 else 2 * ahead - 9)
            self.assertEqual(read(codes), [Place(4)])
            self.tells(low, codes, None)
        self.tells([255, 0, 2, 160], [255, 0, 3, 160], 0)
        self.tells([255, 0, 2, 128], [255, 0, 3, 128], None)

    def test_the_first_card_that_is_not_told_alike(self):
        places = strip_in("1 2 3 - 4 5.1-2 6.1-7.2")
        for card in range(len(places)):
            for other in (Place(900), Place(5, begin=1, end=3), NOWHERE):
                if other == places[card]:
                    continue
                bent = places[:card] + [other] + places[card + 1:]
                self.tells(written(places), written(bent, make=HEADS, every=3), card)
                twice = bent[:-1] + [Place(901)]
                self.tells(written(places, every=2), written(twice), card)

    def test_one_has_more_cards(self):
        places = strip_in("1 2 3 - 4 5.1-2 6.1-7.2 2*-")
        for many in range(len(places)):
            for columns in (True, False):
                self.tells(written(places), written(places[:many], every=3), many, columns=columns)
        self.tells([], [], None)
        self.tells([], written([NOWHERE]), 0)
        self.tells(written([PART] * 159), written([PART] * 160, make=HEADS), 159)

    def test_without_columns(self):
        one = written(strip_in("3 3.1-2 5.1-7.2 -"))
        self.tells(one, written(strip_in("2*3 5 -")), 1)
        self.tells(one, written(strip_in("2*3 5 -")), None, columns=False)
        self.tells(one, written(strip_in("3 3.4-9.2 5.1-2 -")), None, columns=False)
        self.tells(one, written(strip_in("3 3.4-9.2 6.1-2 -")), 2, columns=False)
        self.tells(one, written(strip_in("2*3 5 6")), 3, columns=False)
        self.tells(one, written([LONG]), 1, columns=False)

    def test_by_name_alone(self):
        with self.assertRaises(TypeError):
            alike([], [], True)

    def test_160_cards(self):
        places = strip(random.Random(67), 160)
        self.tells(written(places, make=HEADS, every=1), written(places), None)
        self.tells(written(places, every=5), written(places[:-1] + [Place(999)]), 159)


if __name__ == "__main__":
    unittest.main()
