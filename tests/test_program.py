"""What point [1] promises over the whole program, of strips that go through all its files."""

import random
import unittest

from cardlines.desk import answers
from cardlines.entries import entry_at, entry_bytes, is_entry
from cardlines.errors import Broken, Torn
from cardlines.figures import number_at, signed_at, signed_bytes
from cardlines.hexes import hex_in, hex_text
from cardlines.joining import cut, joined, table_turned
from cardlines.leading import COPIES, HEADS, led, line_behind
from cardlines.least import least_entries, prices
from cardlines.leastcheck import shows_least
from cardlines.pairs import pairs_back, pairs_read, pairs_written
from cardlines.places import Place
from cardlines.placetext import place_in
from cardlines.reader import Reader
from cardlines.reading import place_at, read_from, saved
from cardlines.remaking import alike, bared, remade
from cardlines.runs import cards_of, lines_of, places_of, run_at, runs_of, strip_in, strip_text
from cardlines.seals import bent_in, mended, sealed, unsealed
from cardlines.strip import Strip
from cardlines.tables import marks_of, read, tear_of, written
from cardlines.tabletext import table_in, table_text
from cardlines.turns import is_turn, lost, origins, turned
from tests.document import lines_by_the_document, table_by_the_document
from tests.strips import any_turn, strip
from tests.things import refusal

MAKES = (COPIES, HEADS)


def strips(seed, many, sizes=(0, 1, 15, 16, 17, 40, 160)):
    """So many tuples of a source of chance, a strip, a make and every."""
    chance = random.Random(seed)
    for number in range(many):
        yield chance, strip(chance, sizes[number % len(sizes)]), chance.choice(MAKES), chance.randrange(1, 17)


def segments_in(codes):
    """The entries of each segment of a table, with its line ahead and first card."""
    told = []
    for card, at in marks_of(codes):
        first, behind = number_at(codes, at + 1)
        line, behind = number_at(codes, behind)
        entries = []
        while behind < len(codes) and codes[behind] != 255:
            entry, behind = entry_at(codes, behind)
            entries.append(entry)
        told.append((first, line, entries))
    return told


class Program(unittest.TestCase):
    def test_a_table_leads_each_card_to_just_its_place(self):
        for chance, places, make, every in strips(100, 28):
            codes = written(places, make=make, every=every)
            self.assertEqual(read(codes), places)
            self.assertIsNone(tear_of(codes))
            for card, place in enumerate(places):
                self.assertEqual(place_at(codes, card), place)
            self.assertEqual(refusal(place_at, codes, len(places)), ("NoCard", "card", len(places)))

    def test_from_whatever_byte_it_is_read(self):
        for chance, places, make, every in strips(101, 14, (0, 1, 15, 17, 60)):
            codes = written(places, make=make, every=every)
            marks = marks_of(codes)
            for at in range(len(codes) + 2):
                ahead = [card for card, mark in marks if mark >= at]
                self.assertEqual(read_from(codes, at), (ahead[0], places[ahead[0]:]) if ahead else (None, []))
            self.assertEqual([(at, card) for at, card, cards in saved(codes)], [(at, card) for card, at in marks])
            self.assertEqual([place for at, card, cards in saved(codes) for place in cards], places)

    def test_read_forth_and_back(self):
        for chance, places, make, every in strips(102, 14):
            reader = Reader(written(places, make=make, every=every))
            self.assertEqual(len(reader), len(places))
            there = []
            while reader.here() is not None:
                there.append(reader.here())
                reader.forth()
            back = []
            while reader.back():
                back.append(reader.here())
            self.assertEqual((there, back[::-1]), (places, places))
            runs = []
            while reader.run() is not None:
                first, last, place = reader.run()
                self.assertEqual(reader.run(), run_at(places, first))
                runs.append((last - first + 1, place))
                reader.skip()
            self.assertEqual(runs, runs_of(places))
            self.assertEqual(places_of(runs), places)

    def test_from_each_line_back_to_its_cards(self):
        for chance, places, make, every in strips(103, 14):
            told = read(written(places, make=make, every=every))
            for line in lines_of(told):
                cards = [card for first, last in cards_of(told, line) for card in range(first, last + 1)]
                self.assertEqual(cards, [card for card, place in enumerate(places) if line in lines_by_the_document(place)])
                self.assertTrue(cards)
            self.assertEqual(set(lines_of(told)), {line for place in places for line in lines_by_the_document(place)})

    def test_no_row_of_entries_has_fewer_bytes_and_prices_show_it(self):
        for chance, places, make, every in strips(104, 21):
            codes = written(places, make=make, every=every)
            for card, line, entries in segments_in(codes):
                cards = places[card:card + every]
                self.assertTrue(all(is_entry(entry) for entry in entries))
                self.assertEqual(led(entries, line=line), cards)
                lines = [place.line for place in cards if place.line is not None]
                self.assertEqual(line_behind(entries, line=line), lines[-1] if lines else line)
                self.assertEqual(entries, least_entries(cards, line=line, make=make))
                shown = prices(cards, line=line, make=make)
                self.assertEqual(shown[-1], sum(len(entry_bytes(entry)) for entry in entries))
                self.assertIs(shows_least(cards, entries, shown, line=line, make=make), True)
                word, many = entries[-1][:2]
                if word in ("none", "same") and many > 1:
                    longer = entries[:-1] + [(word, 1)] * many
                    self.assertEqual(led(longer, line=line), cards)
                    self.assertIs(shows_least(cards, longer, shown, line=line, make=make), False)

    def test_copies_have_no_more_bytes_than_heads(self):
        for chance, places, make, every in strips(105, 14):
            self.assertLessEqual(len(written(places, every=every)), len(written(places, make=HEADS, every=every)))

    def test_bytes_that_are_no_table(self):
        seen = 0
        for chance, places, make, every in strips(106, 60, (1, 15, 17, 40)):
            codes = written(places, make=make, every=every)
            for round_ in range(20):
                bent = list(codes)
                way = chance.randrange(4)
                at = chance.randrange(len(codes))
                if way == 0:
                    bent[at] = chance.randrange(256)
                elif way == 1:
                    del bent[at]
                elif way == 2:
                    bent.insert(at, chance.randrange(256))
                else:
                    bent = bent[:at]
                wanted = table_by_the_document(bent)
                if isinstance(wanted, int):
                    seen += 1
                    self.assertEqual(tear_of(bent), wanted)
                    self.assertEqual(refusal(read, bent), ("Torn", "at", wanted))
                    self.assertEqual(refusal(Reader, bent), ("Torn", "at", wanted))
                else:
                    self.assertIsNone(tear_of(bent))
                    self.assertEqual(read(bent), [place for card, mark, cards in wanted for place in cards])
        self.assertGreater(seen, 300)

    def test_one_bent_byte_of_a_sealed_block(self):
        for chance, places, make, every in strips(107, 14, (1, 17, 60, 160)):
            codes = written(places, make=make, every=every)
            block = sealed(codes)
            self.assertEqual((unsealed(block), bent_in(block), mended(block)), (codes, [], block))
            for round_ in range(20):
                at = chance.randrange(len(block))
                byte = chance.choice([code for code in range(256) if code != block[at]])
                bent = block[:at] + [byte] + block[at + 1:]
                self.assertEqual(bent_in(bent), [(at, block[at])])
                self.assertEqual(read(unsealed(mended(bent))), places)
                with self.assertRaises(Broken):
                    unsealed(bent)

    def test_two_bent_bytes_are_never_taken_for_none(self):
        for chance, places, make, every in strips(108, 14, (1, 17, 60, 160)):
            block = sealed(written(places, make=make, every=every))
            for round_ in range(40):
                bent = list(block)
                start = chance.randrange(0, len(block), 104)
                for at in chance.sample(range(start, min(start + 104, len(block))), 2):
                    bent[at] = chance.choice([code for code in range(256) if code != block[at]])
                self.assertEqual(len(bent_in(bent)), 1)
                self.assertEqual(refusal(unsealed, bent), ("Broken", "at", start))

    def test_turned_cards_keep_their_places(self):
        for chance, places, make, every in strips(109, 21, (1, 7, 17, 40)):
            turns = []
            for time in range(12):
                more = turns + [any_turn(chance, len(turned(places, turns)))]
                if more[-1][0] not in ("lines", "put") and refusal(turned, places, more) is None:
                    turns = more
            self.assertTrue(all(is_turn(turn) for turn in turns))
            for place, came in zip(turned(places, turns), origins(len(places), turns)):
                self.assertIn(place, [places[card] for card in came])
            self.assertEqual(table_turned(written(places, make=make), turns, make=make, every=every),
                             written(turned(places, turns), make=make, every=every))

    def test_lines_that_lose_all_their_cards(self):
        for chance, places, make, every in strips(110, 21, (1, 7, 17, 40)):
            turns = [("take", 0, 1), ("one", 0, 2), ("twice", 0, 2, 1), ("take", len(places) // 2, 2)]
            turns = turns[:1 if len(places) < 3 else 4]
            gone = lost(places, turns)
            self.assertEqual(gone, [line for line in lines_of(places) if line not in lines_of(turned(places, turns))])
            self.assertEqual(gone, Strip(places).turn_all(turns))

    def test_a_strip_tells_what_one_made_anew_tells(self):
        for chance, places, make, every in strips(111, 14, (0, 1, 7, 30)):
            kept = Strip(places, make=make, every=every)
            for deed in range(30):
                way = chance.randrange(5)
                if way == 0:
                    kept.back()
                elif way == 1:
                    kept.forth()
                else:
                    refusal(kept.turn, any_turn(chance, len(kept)))
                anew = Strip(kept.places(), make=make, every=every)
                self.assertTrue(kept == anew)
                self.assertEqual((str(kept), repr(kept), len(kept), kept.lines()),
                                 (str(anew), repr(anew), len(anew), anew.lines()))
                for line in kept.lines()[:5]:
                    self.assertEqual(kept.cards_of(line), anew.cards_of(line))
            self.assertEqual(kept.table(), anew.table())
            self.assertEqual(kept.table(), written(kept.places(), make=make, every=every))

    def test_tables_of_two_makes(self):
        for chance, places, make, every in strips(112, 21, (1, 7, 17, 40, 160)):
            codes = written(places, make=make, every=every)
            for other in MAKES:
                again = remade(codes, make=other, every=chance.randrange(1, 17))
                self.assertIsNone(alike(codes, again))
                self.assertEqual(read(again), places)
            bare = written(bared(places), make=make)
            first = [card for card, place in enumerate(places) if place.begin is not None]
            self.assertEqual(alike(codes, bare), first[0] if first else None)
            self.assertIsNone(alike(codes, bare, columns=False))
            near = [place for place in bared(places) if place.line is None or place.line <= 10 ** 4]
            pairs = remade(written(near, make=make), make="pairs")
            self.assertEqual(pairs_read(pairs), near)
            lines = [place.line for place in near if place.line is not None]
            self.assertEqual(pairs_back(pairs, lines[-1] if lines else 0), (near[::-1], 0))
            self.assertEqual(pairs_written(near), pairs)

    def test_cards_through_all_texts(self):
        for chance, places, make, every in strips(113, 21):
            codes = written(places, make=make, every=every)
            self.assertEqual(table_in(table_text(codes)), codes)
            self.assertEqual(hex_in(hex_text(codes)), codes)
            self.assertEqual(strip_in(strip_text(places)), places)
            self.assertEqual([place_in(str(place)) for place in places], places)
            if places:
                rows = ["put 0 " + strip_text(places), "strip", "bytes", "table", "deeds"]
                plain = written(places, make=make)
                self.assertEqual(answers("\n".join(rows), make=make),
                                 ["-", strip_text(places), str(len(plain)), hex_text(plain).replace("\n", " / "), "1"])

    def test_joined_and_cut(self):
        for chance, places, make, every in strips(114, 14, (1, 2, 17, 160)):
            codes = written(places, make=make, every=every)
            half = len(places) // 2
            tail = cut(codes, half, len(places) - 1)
            head = cut(codes, 0, half - 1) if half else []
            self.assertEqual(joined(head, tail, make=make, every=every), codes)
            self.assertIsNone(alike(joined(head, tail), codes))

    def test_numbers_of_all_entries(self):
        for chance, places, make, every in strips(115, 7):
            for card, line, entries in segments_in(written(places, make=make, every=every)):
                for entry in entries:
                    self.assertEqual(entry_at(entry_bytes(entry), 0), (entry, len(entry_bytes(entry))))
                    for number in entry[1:]:
                        self.assertEqual(signed_at(signed_bytes(number), 0), (number, len(signed_bytes(number))))

    def test_torn_tables_are_saved_as_far_as_they_are_right(self):
        for chance, places, make, every in strips(116, 21, (7, 17, 60)):
            codes = written(places, make=make, every=every)
            at = chance.choice([at for at, code in enumerate(codes) if code != 255])
            bent = codes[:at] + [254] + codes[at + 1:]
            with self.assertRaises(Torn):
                read(bent)
            hit = len([mark for card, mark in marks_of(codes) if mark < at])
            whole = saved(codes)
            self.assertEqual(saved(bent), whole[:hit - 1] + whole[hit:])


class Whole(unittest.TestCase):
    def test_one_strip_through_all_files(self):
        places = strip_in("2*3 - 3.4-9 3.4-5.9 700 12*8 2*-")
        kept = Strip(places, every=7)
        self.assertEqual(kept.turn(("lines", 8, 1, 3)), [8])
        self.assertEqual(kept.turn(("take", 6, 12)), [])
        self.assertEqual(str(kept), "2*3 - 3.4-9 3.4-5.9 702 2*-")
        codes = hex_in(hex_text(table_in(table_text(unsealed(mended(sealed(kept.table())))))))
        self.assertEqual(codes, kept.table())
        self.assertEqual(read(codes), kept.places())
        self.assertEqual(Reader(codes).here(), kept.place(0))
        self.assertIsNone(alike(remade(codes), codes))
        self.assertEqual([kept.origin(card) for card in range(8)], [[0], [1], [2], [3], [4], [5], [18], [19]])
        self.assertEqual(read(joined(codes, codes, by=1))[8:], [Place(4), Place(4), Place(), Place(4, begin=4, end=9),
                                                                 Place(4, 6, begin=4, end=9), Place(703), Place(), Place()])


if __name__ == "__main__":
    unittest.main()
