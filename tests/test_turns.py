import copy
import random
import unittest

from cardlines.places import Place
from cardlines.runs import strip_in, strip_text
from cardlines.turns import is_turn, lost, origins, turned
from tests.document import turned_by_the_document
from tests.strips import LONG, NOWHERE, PART, any_turn, row_of_turns, strip
from tests.things import NO_NUMBERS, nested, refusal

MILLION = 10 ** 6
TURNS = (
    ("put", 0, (NOWHERE,)), ("put", MILLION, (Place(3), PART, LONG, NOWHERE)), ("put", 5, (PART,) * 160),
    ("take", 0, 1), ("take", MILLION, MILLION), ("take", 3, 7),
    ("move", 0, 1, 0), ("move", 0, 1, 1), ("move", 5, 3, 5), ("move", 5, 3, 8), ("move", 5, 3, 0), ("move", 5, 3, 9),
    ("move", MILLION, MILLION, 0), ("move", MILLION, MILLION, MILLION), ("move", 0, MILLION, MILLION),
    ("one", 0, 2), ("one", MILLION, MILLION), ("one", 4, 3),
    ("twice", 0, 1, 0), ("twice", 5, 3, 6), ("twice", 5, 3, 7), ("twice", MILLION, MILLION, MILLION),
    ("lines", 1, 0, 0), ("lines", 1, 0, MILLION), ("lines", MILLION, MILLION, 0), ("lines", 7, 2, 3),
)
NO_TURNS = (
    ("put", -1, (PART,)), ("put", MILLION + 1, (PART,)), ("put", 0, ()), ("put", 0, [PART]), ("put", 0, PART),
    ("put", 0, (PART, None)), ("put", 0, (None, PART)), ("put", 0, (PART, (PART,))), ("put", 0, ("3",)), ("put", 0, 3),
    ("put", 0), ("put",), ("put", (PART,)), ("put", 0, (PART,), 1), ("put", 0, 1, (PART,)), ("put", (PART,), 0),
    ("take", -1, 1), ("take", MILLION + 1, 1), ("take", 0, 0), ("take", 0, -1), ("take", 0, MILLION + 1),
    ("take", 0), ("take", 0, 1, 2), ("take",),
    ("move", 5, 3, 6), ("move", 5, 3, 7), ("move", 0, 2, 1), ("move", 0, MILLION, 1), ("move", -1, 1, 5),
    ("move", 0, 0, 0), ("move", 0, 1, -1), ("move", 0, 1, MILLION + 1), ("move", 0, MILLION + 1, 0),
    ("move", MILLION + 1, 1, 0), ("move", 0, 1), ("move", 0, 1, 1, 1),
    ("one", 0, 1), ("one", 0, 0), ("one", -1, 2), ("one", 0, MILLION + 1), ("one", MILLION + 1, 2), ("one", 0),
    ("one", 0, 2, 0),
    ("twice", 0, 0, 0), ("twice", -1, 1, 0), ("twice", 0, 1, -1), ("twice", MILLION + 1, 1, 0),
    ("twice", 0, MILLION + 1, 0), ("twice", 0, 1, MILLION + 1), ("twice", 0, 1), ("twice", 0, 1, 1, 1),
    ("lines", 0, 0, 0), ("lines", -1, 0, 0), ("lines", MILLION + 1, 0, 0), ("lines", 1, -1, 0), ("lines", 1, 0, -1),
    ("lines", 1, MILLION + 1, 0), ("lines", 1, 0, MILLION + 1), ("lines", 1, 0), ("lines", 1, 0, 0, 0), ("lines", 1),
    (), ("",), ("turn", 0, 1), ("back",), ("PUT", 0, (PART,)), ("none", 1), (0, 1), (None, 0, 1), (True, 0, 1),
    ((), 0, 1), ([], 0, 1), (PART, 0, 1), ("take", "0", 1), ("take", 0, "1"), ("take", (0, 1)), ("take", [0, 1]),
)
# Cards 0 to 6.
SEVEN = strip_in("1 2 - 3.1-5 4.2-6.0 700 -")


def told(text, *turns):
    """The strip_text of turned, of a strip's text."""
    return strip_text(turned(strip_in(text), list(turns)))


class IsTurn(unittest.TestCase):
    def test_turns(self):
        for turn in TURNS:
            self.assertIs(is_turn(turn), True, turn)
            self.assertIs(is_turn(thing=turn), True)

    def test_no_turns(self):
        for thing in NO_TURNS:
            self.assertIs(is_turn(thing), False, thing)

    def test_lists_in_the_place_of_tuples(self):
        for turn in TURNS:
            self.assertIs(is_turn(list(turn)), False)
            if turn[0] == "put":
                self.assertIs(is_turn((*turn[:2], list(turn[2]))), False)

    def test_other_things_in_the_place_of_each_part(self):
        for turn in TURNS:
            for place in range(len(turn)):
                for thing in (None, *NO_NUMBERS, -1):
                    self.assertIs(is_turn((*turn[:place], thing, *turn[place + 1:])), False, (turn, place, thing))

    def test_truths_in_the_place_of_numbers(self):
        for turn in (("put", True, (PART,)), ("put", False, (PART,)), ("take", False, 1), ("take", 0, True),
                     ("move", False, 1, 1), ("move", 0, True, 1), ("move", 0, 1, True), ("one", True, 2),
                     ("twice", 0, 1, False), ("lines", True, 0, 0), ("lines", 1, False, 0), ("lines", 1, 0, True)):
            self.assertIs(is_turn(turn), False, turn)

    def test_things_of_all_kinds_to_six_deep(self):
        for thing in (None, True, 0, 3, "", "put", PART, NOWHERE, *TURNS, *NO_TURNS, *NO_NUMBERS):
            for deep in range(1, 7 if not isinstance(thing, tuple) else 5):
                self.assertIs(is_turn(nested(thing, deep)), False)
                self.assertIs(is_turn(("put", 0, nested(thing, deep) if deep > 1 else [thing])), False)
                self.assertIs(is_turn(("take", nested(thing, deep), 1)), False)
        for thing in (None, True, False, 0, 3, -1, "", "put", PART, NOWHERE, [], ()):
            self.assertIs(is_turn(thing), False)


class Turned(unittest.TestCase):
    def test_kinds(self):
        for places in (SEVEN, tuple(SEVEN)):
            for turns in ([], (), [("take", 0, 1)], (("take", 0, 1),)):
                self.assertIs(type(turned(places, turns)), list)
                self.assertEqual(turned(places, turns), SEVEN[len(turns):])
                self.assertEqual(turned(turns=turns, places=places), SEVEN[len(turns):])
        self.assertEqual(turned([], []), [])
        self.assertIsNot(turned(SEVEN, []), SEVEN)

    def test_put(self):
        new = (PART, NOWHERE)
        for at in range(8):
            self.assertEqual(turned(SEVEN, [("put", at, new)]), SEVEN[:at] + list(new) + SEVEN[at:])
        self.assertEqual(turned([], [("put", 0, new)]), list(new))
        self.assertEqual(told("1 2", ("put", 1, (Place(9),)), ("put", 1, (Place(8),))), "1 8 9 2")

    def test_take(self):
        self.assertEqual(told("1 2 3 4", ("take", 0, 1)), "2 3 4")
        self.assertEqual(told("1 2 3 4", ("take", 3, 1)), "1 2 3")
        self.assertEqual(told("1 2 3 4", ("take", 1, 2)), "1 4")
        self.assertEqual(told("1 2 3 4", ("take", 0, 4)), "")
        self.assertEqual(told("1 2 3 4", ("take", 2, 2)), "1 2")

    def test_move(self):
        for turn, wanted in (
            (("move", 0, 1, 0), "1 2 3 4 5"), (("move", 0, 1, 1), "1 2 3 4 5"), (("move", 0, 1, 2), "2 1 3 4 5"),
            (("move", 0, 1, 5), "2 3 4 5 1"), (("move", 0, 2, 4), "3 4 1 2 5"), (("move", 1, 2, 0), "2 3 1 4 5"),
            (("move", 1, 2, 1), "1 2 3 4 5"), (("move", 1, 2, 3), "1 2 3 4 5"), (("move", 1, 2, 4), "1 4 2 3 5"),
            (("move", 1, 2, 5), "1 4 5 2 3"), (("move", 3, 2, 0), "4 5 1 2 3"), (("move", 3, 2, 2), "1 2 4 5 3"),
            (("move", 3, 2, 3), "1 2 3 4 5"), (("move", 3, 2, 5), "1 2 3 4 5"), (("move", 4, 1, 0), "5 1 2 3 4"),
            (("move", 4, 1, 3), "1 2 3 5 4"), (("move", 0, 5, 0), "1 2 3 4 5"), (("move", 0, 5, 5), "1 2 3 4 5"),
        ):
            self.assertEqual(told("1 2 3 4 5", turn), wanted, turn)

    def test_one(self):
        for turn, wanted in (
            (("one", 0, 2), "1 - 3.1-5 4.2-6.0 700 -"), (("one", 1, 2), "1 2 3.1-5 4.2-6.0 700 -"),
            (("one", 2, 2), "1 2 3.1-5 4.2-6.0 700 -"), (("one", 2, 3), "1 2 3.1-5 700 -"),
            (("one", 4, 3), "1 2 - 3.1-5 4.2-6.0"), (("one", 5, 2), "1 2 - 3.1-5 4.2-6.0 700"),
            (("one", 0, 7), "1"),
        ):
            self.assertEqual(told(strip_text(SEVEN), turn), wanted, turn)
        self.assertEqual(told("3*-", ("one", 0, 2)), "2*-")
        self.assertEqual(told("3*-", ("one", 0, 3)), "-")
        self.assertEqual(told("3*- 5", ("one", 0, 4)), "5")
        self.assertEqual(told("- 6 3*- 5", ("one", 2, 3)), "- 6 - 5")

    def test_twice(self):
        for turn, wanted in (
            (("twice", 0, 1, 0), "2*1 2 3"), (("twice", 0, 1, 1), "2*1 2 3"), (("twice", 0, 1, 3), "1 2 3 1"),
            (("twice", 2, 1, 0), "3 1 2 3"), (("twice", 2, 1, 3), "1 2 2*3"), (("twice", 0, 3, 3), "1 2 3 1 2 3"),
            (("twice", 0, 3, 0), "1 2 3 1 2 3"), (("twice", 0, 3, 1), "2*1 2 3 2 3"), (("twice", 0, 3, 2), "1 2 1 2 2*3"),
            (("twice", 1, 2, 2), "1 2*2 2*3"), (("twice", 0, 2, 3), "1 2 3 1 2"),
        ):
            self.assertEqual(told("1 2 3", turn), wanted, turn)

    def test_lines_put_in(self):
        text = "4 5 6 3.1-5.2 4.1-5.2 5.1-7.2 6.1-2 -"
        self.assertEqual(told(text, ("lines", 5, 0, 0)), "4 5 6 2*- 5.1-7.2 6.1-2 -")
        self.assertEqual(told(text, ("lines", 5, 0, 3)), "4 8 9 2*- 8.1-10.2 9.1-2 -")
        self.assertEqual(told(text, ("lines", 1, 0, 3)), "7 8 9 6.1-8.2 7.1-8.2 8.1-10.2 9.1-2 -")
        self.assertEqual(told(text, ("lines", 8, 0, 3)), text)
        self.assertEqual(told(text, ("lines", 7, 0, 3)), "4 5 6 3.1-5.2 4.1-5.2 - 6.1-2 -")
        self.assertEqual(told(text, ("lines", MILLION, 0, MILLION)), text)

    def test_lines_taken_out(self):
        text = "4 5 6 3.1-5.2 4.1-5.2 5.1-7.2 6.1-2 -"
        self.assertEqual(told(text, ("lines", 5, 1, 0)), "4 - 5 3*- 5.1-2 -")
        self.assertEqual(told(text, ("lines", 5, 2, 0)), "4 7*-")
        self.assertEqual(told(text, ("lines", 1, 3, 0)), "1 2 3 - 1.1-2.2 2.1-4.2 3.1-2 -")
        self.assertEqual(told(text, ("lines", 1, 2, 0)), "2 3 4 1.1-3.2 2.1-3.2 3.1-5.2 4.1-2 -")
        self.assertEqual(told(text, ("lines", 1, 7, 0)), "8*-")
        self.assertEqual(told(text, ("lines", 1, MILLION, MILLION)), "8*-")
        self.assertEqual(told(text, ("lines", 7, 1, 0)), "4 5 6 3.1-5.2 4.1-5.2 - 6.1-2 -")
        self.assertEqual(told(text, ("lines", 6, MILLION, 0)), "4 5 - 3.1-5.2 4.1-5.2 3*-")

    def test_lines_taken_out_and_put_in(self):
        self.assertEqual(told("4 5 6 7", ("lines", 5, 1, 1)), "4 - 6 7")
        self.assertEqual(told("4 5 6 7", ("lines", 5, 2, 9)), "4 2*- 14")
        self.assertEqual(told("4 5 6 7", ("lines", 4, 3, 1)), "3*- 5")

    def test_what_became_nowhere_stays_nowhere(self):
        self.assertEqual(told("5 6", ("lines", 5, 1, 0), ("lines", 5, 0, 1)), "- 6")

    def test_lines_to_the_last_one(self):
        self.assertEqual(told("999999 999998.1-999999.2", ("lines", 1, 0, 1)), "1000000 999999.1-1000000.2")
        self.assertEqual(told("1000000", ("lines", MILLION, 0, 0)), "1000000")
        self.assertEqual(told("1000000", ("lines", 1, 7, 7)), "1000000")
        self.assertEqual(told("1000000", ("lines", 1, 999999, 0)), "1")

    def test_rows_of_turns(self):
        chance = random.Random(50)
        for round_ in range(150):
            places = strip(chance, chance.choice((0, 1, 5, 12, 40, 160)))
            turns = row_of_turns(chance, places, chance.choice((1, 2, 5, 12)))
            wanted = turned_by_the_document(places, turns)
            self.assertEqual((turned(places, turns), origins(len(places), turns), lost(places, turns)), wanted)
            self.assertEqual((turned(tuple(places), tuple(turns)), lost(tuple(places), tuple(turns))), wanted[::2])

    def test_forty_turns(self):
        chance = random.Random(51)
        for many in (0, 7, 160):
            places = strip(chance, many)
            turns = row_of_turns(chance, places, 40)
            wanted = turned_by_the_document(places, turns)
            self.assertEqual((turned(places, turns), origins(many, turns), lost(places, turns)), wanted)

    def test_one_behind_the_other(self):
        chance = random.Random(52)
        for round_ in range(40):
            places = strip(chance, 20)
            turns = row_of_turns(chance, places, 8)
            step = places
            for turn in turns:
                step = turned(step, [turn])
            self.assertEqual(turned(places, turns), step)


class Refused(unittest.TestCase):
    def refuses(self, places, turns, number, *, lines=True):
        """All three refuse; origins too, but of lines beyond."""
        for row in (list(turns), tuple(turns)):
            self.assertEqual(refusal(turned, places, row), ("BadTurn", "number", number))
            self.assertEqual(refusal(lost, places, row), ("BadTurn", "number", number))
            if lines:
                self.assertEqual(refusal(origins, len(places), row), ("BadTurn", "number", number))

    def test_no_turns_and_lists(self):
        for thing in (*NO_TURNS, *[list(turn) for turn in TURNS], None, True, 3, "take", PART, [], ["take", 0, 1]):
            self.refuses(SEVEN, [thing], 0)
            self.refuses(SEVEN, [("take", 0, 1), ("one", 0, 2), thing, ("take", 0, 1)], 2)

    def test_cards_that_are_not_there(self):
        for turn in (("put", 8, (PART,)), ("put", MILLION, (PART,)), ("take", 7, 1), ("take", 6, 2), ("take", 0, 8),
                     ("take", MILLION, MILLION), ("move", 7, 1, 0), ("move", 6, 2, 0), ("move", 0, 1, 8),
                     ("move", 5, 2, 8), ("move", 0, 8, 8), ("move", 7, 1, 8), ("one", 6, 2), ("one", 0, 8),
                     ("one", 7, 2), ("twice", 7, 1, 0), ("twice", 6, 2, 0), ("twice", 0, 1, 8), ("twice", 0, 8, 0)):
            self.refuses(SEVEN, [turn], 0)
            self.refuses(SEVEN, [("lines", 9, 1, 1), turn], 1)
        for turn in (("take", 0, 1), ("move", 0, 1, 0), ("one", 0, 2), ("twice", 0, 1, 0), ("put", 1, (PART,))):
            self.refuses([], [turn], 0)

    def test_cards_that_were_there_and_those_that_came(self):
        self.refuses(SEVEN, [("take", 0, 7), ("take", 0, 1)], 1)
        self.refuses(SEVEN, [("one", 0, 7), ("take", 1, 1)], 1)
        self.assertEqual(turned(SEVEN, [("twice", 0, 1, 7), ("take", 0, 7)]), [Place(1)])
        self.assertEqual(turned([], [("put", 0, (PART,)), ("take", 0, 1)]), [])

    def test_more_than_160_cards(self):
        full = [PART] * 160
        self.refuses(full, [("put", 0, (PART,))], 0)
        self.refuses(full, [("twice", 0, 1, 0)], 0)
        self.refuses([], [("put", 0, (PART,) * 161)], 0)
        self.refuses(full, [("take", 0, 1), ("put", 0, (PART,)), ("put", 0, (NOWHERE,))], 2)
        self.refuses([PART] * 81, [("twice", 0, 80, 0)], 0)
        self.refuses(SEVEN, [("put", 0, (PART,) * 154), ("take", 0, 1)], 0)
        self.assertEqual(turned([], [("put", 0, (PART,) * 160)]), full)
        self.assertEqual(turned([PART] * 80, [("twice", 0, 80, 80)]), full)
        self.assertEqual(turned(full, [("take", 0, 1), ("twice", 0, 1, 0), ("lines", 9, 9, 9), ("move", 0, 9, 160)]), full)

    def test_lines_moved_beyond(self):
        for text, turn in (("1000000", ("lines", 1, 0, 1)), ("- 3 1000000", ("lines", 4, 0, 1)),
                           ("999999.1-1000000.1", ("lines", 5, 1, 2)), ("1", ("lines", 1, 0, MILLION)),
                           ("2", ("lines", 1, 1, MILLION)), ("999999.1-1000000.1", ("lines", 999999, 0, 1)),
                           ("999999.4-1000000.1", ("lines", 1, 5, MILLION))):
            places = strip_in(text)
            self.refuses(places, [turn], 0, lines=False)
            self.refuses(places, [("twice", 0, 1, 0), turn], 1, lines=False)
            self.assertEqual(origins(len(places), [turn]), [[card] for card in range(len(places))])
        self.assertEqual(told("999999.1-1000000.1", ("lines", MILLION, 0, 1)), "-")
        self.assertEqual(told("1000000", ("lines", MILLION, 1, MILLION)), "-")
        self.refuses([Place(MILLION)], [("lines", 1, 0, 1), ("take", 5, 5)], 0, lines=False)
        self.assertEqual(refusal(origins, 1, [("lines", 1, 0, 1), ("take", 5, 5)]), ("BadTurn", "number", 1))
        self.assertEqual(turned([Place(MILLION)], [("take", 0, 1), ("lines", 1, 0, 1)]), [])

    def test_lines_of_put_cards_moved_beyond(self):
        turns = [("put", 0, (Place(MILLION),)), ("lines", 1, 0, 1)]
        self.refuses(SEVEN, turns, 1, lines=False)
        self.assertEqual(origins(1, turns), [[], [0]])
        self.assertEqual(refusal(origins, 1, turns + [("take", 2, 1)]), ("BadTurn", "number", 2))

    def test_the_first_of_several(self):
        self.refuses(SEVEN, [("take", 9, 1), ["take", 0, 1]], 0)
        self.refuses(SEVEN, [["take", 0, 1], ("take", 9, 1)], 0)
        self.refuses(SEVEN, [("take", 0, 1), None, ("take", 9, 1)], 1)
        self.refuses(SEVEN, [("lines", 1, 0, MILLION), None], 0, lines=False)
        self.refuses(SEVEN, [("take", 0, 1)] * 7 + [("take", 0, 1)] * 33, 7)
        self.refuses(SEVEN, [("lines", 1, 0, 0)] * 39 + [("take", 7, 1)], 39)

    def test_beside_the_document(self):
        chance = random.Random(53)
        seen = 0
        for round_ in range(400):
            places = strip(chance, chance.choice((0, 1, 5, 12, 150)))
            turns = []
            cards = len(places)
            for number in range(chance.randrange(1, 6)):
                turns.append(any_turn(chance, cards + chance.randrange(2)))
                told_now = turned_by_the_document(places, turns)
                cards = cards if isinstance(told_now, int) else len(told_now[0])
            wanted = turned_by_the_document(places, turns)
            if isinstance(wanted, int):
                seen += 1
                self.assertEqual(refusal(turned, places, turns), ("BadTurn", "number", wanted))
                self.assertEqual(refusal(lost, places, turns), ("BadTurn", "number", wanted))
            else:
                self.assertEqual((turned(places, turns), origins(len(places), turns), lost(places, turns)), wanted)
            bare = turned_by_the_document([NOWHERE] * len(places), [turn for turn in turns if turn[0] != "lines"])
            if not isinstance(bare, int):
                self.assertEqual(origins(len(places), turns), bare[1])
        self.assertGreater(seen, 100)

    def test_what_was_handed_in_stays(self):
        places = list(SEVEN)
        turns = [("twice", 0, 3, 5), ("lines", 2, 1, 4), ("take", 99, 1)]
        ahead = copy.deepcopy((places, turns))
        for ask, first in ((turned, places), (lost, places), (origins, 7)):
            self.assertIsNotNone(refusal(ask, first, turns))
            self.assertEqual(refusal(ask, first, turns), refusal(ask, first, turns))
        self.assertEqual((places, turns), ahead)


class Origins(unittest.TestCase):
    def tells(self, many, turns, wanted):
        self.assertEqual(origins(many, turns), wanted)
        self.assertEqual(origins(turns=tuple(turns), many=many), wanted)

    def test_none(self):
        self.tells(0, [], [])
        self.tells(3, [], [[0], [1], [2]])
        self.assertEqual(origins(160, []), [[card] for card in range(160)])

    def test_each_word(self):
        self.tells(3, [("put", 1, (PART, NOWHERE))], [[0], [], [], [1], [2]])
        self.tells(3, [("take", 1, 1)], [[0], [2]])
        self.tells(3, [("move", 0, 1, 3)], [[1], [2], [0]])
        self.tells(3, [("move", 2, 1, 0)], [[2], [0], [1]])
        self.tells(3, [("one", 0, 2)], [[0, 1], [2]])
        self.tells(3, [("twice", 0, 2, 2)], [[0], [1], [0], [1], [2]])
        self.tells(3, [("lines", 1, 5, 0)], [[0], [1], [2]])

    def test_those_made_one_rise_and_have_nothing_twice(self):
        self.tells(3, [("move", 2, 1, 0), ("one", 0, 3)], [[0, 1, 2]])
        self.tells(2, [("twice", 0, 2, 0), ("one", 0, 4)], [[0, 1]])
        self.tells(12, [("move", 11, 1, 2), ("one", 0, 4)], [[0, 1, 2, 11]] + [[card] for card in range(3, 11)])
        self.tells(2, [("put", 1, (PART,)), ("one", 0, 2)], [[0], [1]])
        self.tells(0, [("put", 0, (PART, PART)), ("one", 0, 2)], [[]])
        self.tells(3, [("one", 0, 2), ("one", 0, 2)], [[0, 1, 2]])

    def test_all_made_one(self):
        self.assertEqual(origins(160, [("one", 0, 160)]), [list(range(160))])

    def test_lists_of_their_own(self):
        for turns in ([], [("twice", 0, 2, 2)], [("put", 0, (PART, PART))]):
            rows = origins(3, turns)
            self.assertIs(type(rows), list)
            self.assertEqual(len({id(row) for row in rows}), len(rows))
            self.assertEqual({type(row) for row in rows}, {list})
            rows[0].append("bent")
            self.assertEqual(rows[1:], origins(3, turns)[1:])


class Lost(unittest.TestCase):
    def loses(self, text, turns, wanted):
        places = strip_in(text)
        self.assertEqual(lost(places, turns), wanted)
        self.assertEqual(lost(turns=tuple(turns), places=tuple(places)), wanted)
        self.assertEqual(turned_by_the_document(places, turns)[2], wanted)

    def test_none(self):
        self.loses("", [], [])
        self.loses("1 2 3.1-5.1", [], [])
        self.loses("", [("put", 0, (PART,)), ("take", 0, 1)], [])

    def test_take(self):
        self.loses("1 2 3.1-5.1 - 4", [("take", 0, 1)], [1])
        self.loses("1 2 3.1-5.1 - 4", [("take", 2, 1)], [3, 5])
        self.loses("1 2 3.1-5.1 - 4", [("take", 4, 1)], [])
        self.loses("1 2 3.1-5.1 - 4", [("take", 2, 3)], [3, 4, 5])
        self.loses("9 1 2", [("take", 0, 3)], [1, 2, 9])
        self.loses("2*9", [("take", 0, 1)], [])

    def test_put_and_move_and_twice(self):
        self.loses("1 2", [("put", 0, (Place(1),)), ("take", 1, 1)], [1])
        self.loses("1 2", [("move", 0, 1, 2)], [])
        self.loses("1 2", [("twice", 0, 1, 2), ("take", 0, 1)], [])
        self.loses("1 2", [("twice", 0, 1, 2), ("take", 0, 1), ("take", 1, 1)], [1])

    def test_one(self):
        self.loses("1 2", [("one", 0, 2)], [2])
        self.loses("- 1 2", [("one", 0, 3)], [2])
        self.loses("- 1 2", [("one", 0, 2)], [])
        self.loses("2*- 2", [("one", 0, 2)], [])
        self.loses("1 2 1", [("one", 1, 2)], [])
        self.loses("- 2", [("put", 1, (Place(2),)), ("one", 0, 3)], [2])
        self.loses("2", [("put", 0, (NOWHERE,)), ("one", 0, 2)], [])

    def test_lines(self):
        self.loses("4 5 6", [("lines", 5, 1, 0)], [5])
        self.loses("4 5 4.1-5.1", [("lines", 5, 1, 0)], [5])
        self.loses("4 5 5.1-6.1", [("lines", 6, 0, 1)], [6])
        self.loses("5 6", [("lines", 1, 0, 9)], [])
        self.loses("5 6", [("lines", 1, 0, 9), ("lines", 14, 1, 0)], [5])
        self.loses("5 6", [("lines", 1, 0, 1), ("take", 0, 1)], [5])

    def test_what_became_nowhere_keeps_nothing(self):
        self.loses("5 6", [("lines", 5, 1, 0), ("lines", 5, 0, 1)], [5])
        self.loses("5 6", [("lines", 5, 1, 1), ("one", 0, 2)], [5])
        self.loses("5", [("lines", 5, 1, 1), ("twice", 0, 1, 0), ("one", 0, 2)], [5])
        self.loses("5", [("twice", 0, 1, 1), ("lines", 5, 1, 1)], [5])

    def test_lines_that_come_again_are_lost_all_the_same(self):
        self.loses("5", [("take", 0, 1), ("put", 0, (Place(5),))], [5])
        self.loses("5 6", [("lines", 5, 1, 0)], [5])

    def test_beyond_is_refused_as_turned(self):
        self.assertEqual(refusal(lost, [Place(MILLION)], [("lines", 1, 0, 1)]), ("BadTurn", "number", 0))

    def test_long_places(self):
        places = [Place(line, line + 99, begin=1, end=1) for line in range(1, 16001, 100)]
        self.assertEqual(lost(places, [("take", 0, 160)]), list(range(1, 16001)))
        self.assertEqual(lost(places, [("take", 1, 159)]), list(range(101, 16001)))
        self.assertEqual(lost(places, [("lines", 8050, 0, 0)]), list(range(8001, 8101)))
        self.assertEqual(lost(places, [("lines", 8001, 0, 5)]), [])


if __name__ == "__main__":
    unittest.main()
