import itertools
import re
import unittest

from cardlines.errors import BadText, NoCard
from cardlines.places import Place
from cardlines.runs import cards_of, lines_of, places_of, run_at, runs_of, strip_in, strip_text
from tests.things import fields, forms

NOWHERE = Place()
THREE = Place(3)
PART = Place(3, begin=4, end=9)
LONG = Place(3, 5, begin=4, end=9)
FOUR = (NOWHERE, THREE, PART, LONG)


def copy_of(place):
    """A Place that is equal, but another object."""
    return Place(place.line, place.last, begin=place.begin, end=place.end)


def short_strips():
    """All strips of up to five cards of four places, each card with a Place of its own."""
    for many in range(6):
        for row in itertools.product(FOUR, repeat=many):
            yield [copy_of(place) for place in row]


class Runs(unittest.TestCase):
    def test_runs_of(self):
        self.assertEqual(runs_of([]), [])
        self.assertEqual(runs_of(()), [])
        self.assertEqual(runs_of([THREE]), [(1, THREE)])
        self.assertEqual(runs_of([Place(3), Place(3), Place(), Place(), Place(), Place(3)]),
                         [(2, THREE), (3, NOWHERE), (1, THREE)])
        self.assertEqual(runs_of(places=(THREE, PART, LONG)), [(1, THREE), (1, PART), (1, LONG)])
        self.assertEqual(runs_of([THREE] * 160), [(160, THREE)])
        self.assertEqual(runs_of([THREE, PART] * 80), [(1, THREE), (1, PART)] * 80)

    def test_kinds_that_are_told(self):
        runs = runs_of((THREE, THREE))
        self.assertIs(type(runs), list)
        self.assertIs(type(runs[0]), tuple)
        self.assertIs(type(places_of(tuple(runs))), list)
        self.assertIs(type(run_at((THREE,), 0)), tuple)
        self.assertIs(type(strip_in("3")), list)
        pairs = cards_of((THREE,), 3)
        self.assertIs(type(pairs), list)
        self.assertIs(type(pairs[0]), tuple)
        self.assertIs(type(lines_of((THREE,))), list)

    def test_as_few_as_can_be_and_back(self):
        for strip in short_strips():
            runs = runs_of(strip)
            self.assertEqual(places_of(runs), strip)
            self.assertTrue(all([many >= 1 for many, place in runs]))
            self.assertFalse(any([one[1] == other[1] for one, other in zip(runs, runs[1:])]))

    def test_places_of(self):
        self.assertEqual(places_of([]), [])
        self.assertEqual(places_of(()), [])
        self.assertEqual(places_of([(1, THREE)]), [THREE])
        self.assertEqual(places_of(runs=((2, THREE), (1, THREE), (2, NOWHERE))), [THREE] * 3 + [NOWHERE] * 2)
        self.assertEqual(places_of([(160, PART)]), [PART] * 160)

    def test_run_at(self):
        for strip in short_strips():
            card = 0
            for many, place in runs_of(strip):
                for at in range(card, card + many):
                    self.assertEqual(run_at(strip, at), (card, card + many - 1, place))
                    self.assertEqual(run_at(tuple(strip), at), (card, card + many - 1, place))
                card += many
        self.assertEqual(run_at(card=159, places=[THREE] * 160), (0, 159, THREE))

    def test_run_at_no_card(self):
        for strip in ([], [THREE], [THREE] * 5, [THREE] * 160):
            for card in (-1, -2, -len(strip), -len(strip) - 1, len(strip), len(strip) + 1, 10 ** 6, -10 ** 6):
                if 0 <= card < len(strip):
                    continue
                with self.assertRaises(NoCard) as caught:
                    run_at(strip, card)
                self.assertEqual(caught.exception.card, card)


class StripText(unittest.TestCase):
    def refused(self, text):
        with self.assertRaises(BadText) as caught:
            strip_in(text)
        self.assertEqual(caught.exception.text, text)

    def test_strip_text(self):
        self.assertEqual(strip_text([]), "")
        self.assertEqual(strip_text(()), "")
        self.assertEqual(strip_text([NOWHERE]), "-")
        self.assertEqual(strip_text(places=(THREE, THREE, NOWHERE, PART, LONG, LONG)), "2*3 - 3.4-9 2*3.4-5.9")
        self.assertEqual(strip_text([THREE] * 160), "160*3")
        self.assertEqual(strip_text([THREE] * 600), "600*3")

    def test_strip_in(self):
        self.assertEqual(strip_in(""), [])
        self.assertEqual(strip_in("-"), [NOWHERE])
        self.assertEqual(strip_in(text="2*3 - 3.4-9 2*3.4-5.9"), [THREE, THREE, NOWHERE, PART, LONG, LONG])
        self.assertEqual(strip_in("160*3"), [THREE] * 160)
        self.assertEqual(strip_in("80*3 80*-"), [THREE] * 80 + [NOWHERE] * 80)
        self.assertEqual(strip_in(" ".join(["3", "-"] * 80)), [THREE, NOWHERE] * 80)

    def test_there_and_back(self):
        for strip in short_strips():
            text = strip_text(strip)
            self.assertEqual(strip_in(text), strip)
            self.assertEqual(text == "", strip == [])
        for place in forms():
            self.assertEqual(fields(strip_in(strip_text([place] * 7))[6]), fields(place))

    def test_other_runs_than_strip_text_would_write(self):
        for text in ("3 3", "2*3 3", "3 2*3", "2*3 2*3", "1*3", "0*3", "3 0*4", "02*3", "00*3", "2*03", "- -", "1*-",
                     "3.4-9 3.4-9", "+2*3", "-2*3", "2 *3", "2* 3", "*3", "2*", "*", "2*2*3", "2**3", "3*", "x*3",
                     "2*x", "\u0662*3", "\u00b2*3", "3 0*3"):
            self.refused(text)

    def test_blanks_and_line_feeds(self):
        for text in (" ", "  ", " 3", "3 ", "3  4", " 3 4", "3 4 ", "3\n4", "3\n", "\n", "3\t4", "3 \n4", "3,4", "3;4"):
            self.refused(text)

    def test_more_than_160_cards(self):
        for text in ("161*3", "160*3 4", "3 160*4", "1000000*3", "9999999*3", "9" * 5000 + "*3", "80*3 81*4",
                     " ".join(["3", "-"] * 80 + ["3"])):
            self.refused(text)

    def test_words_that_are_no_places(self):
        for text in ("x", "0", "03", "1000001", "3.4-3", "3.4-3.9", "3 x", "2*3.9-4", "3 4 3.4", "3 4.", "Place(3)"):
            self.refused(text)

    def test_all_short_texts(self):
        run = re.compile("(?:([2-9]|[1-9][0-9]|1[0-5][0-9]|160)[*])?(-|[1-9][0-9]*)")
        for long in range(7):
            for signs in itertools.product("0123*- ", repeat=long):
                text = "".join(signs)
                found = [run.fullmatch(word) for word in text.split(" ")] if text else []
                right = None not in found
                right = right and all([one[2] != other[2] for one, other in zip(found, found[1:])])
                wanted = right and [word[2] for word in found for card in range(int(word[1] or 1))]
                right = right and len(wanted) <= 160
                try:
                    told = [str(place) for place in strip_in(text)]
                except BadText as refused:
                    self.assertEqual(refused.text, text)
                    told = False
                if told != (wanted if right else False):
                    self.fail(f"{text!r} told {told}")


class CardsAndLines(unittest.TestCase):
    def test_cards_of(self):
        strip = [THREE, PART, NOWHERE, LONG, Place(4), Place(4, 6, begin=0, end=0), THREE]
        self.assertEqual(cards_of(strip, 3), [(0, 1), (3, 3), (6, 6)])
        self.assertEqual(cards_of(tuple(strip), 4), [(3, 5)])
        self.assertEqual(cards_of(places=strip, line=5), [(3, 3), (5, 5)])
        self.assertEqual(cards_of(line=6, places=strip), [(5, 5)])
        self.assertEqual(cards_of(strip, 1), [])
        self.assertEqual(cards_of(strip, 7), [])
        self.assertEqual(cards_of([], 3), [])
        self.assertEqual(cards_of([THREE] * 160, 3), [(0, 159)])
        self.assertEqual(cards_of([Place(10 ** 6)], 10 ** 6), [(0, 0)])

    def test_cards_of_as_few_as_can_be(self):
        for strip in short_strips():
            for line in (2, 3, 5, 6):
                pairs = cards_of(strip, line)
                cards = [card for first, last in pairs for card in range(first, last + 1)]
                self.assertEqual(cards, [card for card, place in enumerate(strip) if place.has(line)])
                self.assertFalse(any([one[1] + 1 == other[0] for one, other in zip(pairs, pairs[1:])]))

    def test_lines_of(self):
        self.assertEqual(lines_of([]), [])
        self.assertEqual(lines_of([NOWHERE, NOWHERE]), [])
        self.assertEqual(lines_of((Place(9), LONG, NOWHERE, Place(4), PART, Place(9), Place(1))), [1, 3, 4, 5, 9])
        self.assertEqual(lines_of(places=[Place(2, 101, begin=0, end=0)]), list(range(2, 102)))
        self.assertEqual(lines_of([Place(10 ** 6), Place(1)]), [1, 10 ** 6])
        rows = [Place(1 + 100 * card, 100 + 100 * card, begin=0, end=0) for card in range(160)]
        self.assertEqual(lines_of(list(reversed(rows))), list(range(1, 16001)))


if __name__ == "__main__":
    unittest.main()
