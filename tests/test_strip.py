import copy
import random
import unittest

from cardlines.errors import BadTurn, NoCard, NoDeed
from cardlines.leading import COPIES, HEADS
from cardlines.places import Place
from cardlines.runs import cards_of, lines_of, strip_in, strip_text
from cardlines.strip import Strip
from cardlines.tables import written
from tests.document import turned_by_the_document
from tests.strips import LONG, NOWHERE, PART, any_turn, row_of_turns, strip
from tests.things import refusal

MILLION = 10 ** 6
NO_TURNS = (None, True, 0, "back", [], (), ["take", 0, 1], ("take", 0), ("put", 0, [PART]), ("take", MILLION, 1), PART)


class Beside:
    """A strip by the document: the first places, the turns of each deed, and nothing kept but these."""

    def __init__(self, places):
        self.first = list(places)
        self.done = []
        self.undone = []
        self.noted = []

    def behind(self, more=()):
        """(places, origins, lost lines) behind all deeds that are done and these turns, or the number of a turn."""
        return turned_by_the_document(self.first, [turn for turns in self.done for turn in turns] + list(more))

    def deed(self, word, turns):
        """What is told of a deed that does turns: lost lines, or None where it is refused."""
        self.noted += [("in", word), ("out", word)]
        told = turned_by_the_document(self.behind()[0], turns)
        if isinstance(told, int):
            return None
        self.done.append(list(turns))
        self.undone = []
        return told[2]

    def shift(self, word):
        self.noted += [("in", word), ("out", word)]
        source, target = (self.done, self.undone) if word == "back" else (self.undone, self.done)
        if source:
            target.append(source.pop())
            return True
        return False


class Kept(unittest.TestCase):
    def same(self, kept, beside, *, make=COPIES, every=16):
        """All asks tell what the document says of these deeds."""
        places, origins, gone = beside.behind()
        self.assertEqual(kept.places(), places)
        self.assertEqual([kept.place(card) for card in range(len(places))], places)
        self.assertEqual([kept.origin(card) for card in range(len(places))], origins)
        for card in range(len(beside.first)):
            self.assertEqual(kept.now_of(card), [now for now, came in enumerate(origins) if card in came])
        self.assertEqual(kept.lines(), lines_of(places))
        for line in (1, 2, 3, 4, 700, MILLION):
            self.assertEqual(kept.cards_of(line), cards_of(places, line))
        self.assertEqual(kept.deeds(), len(beside.done))
        self.assertEqual(kept.log(), beside.noted)
        self.assertIs(kept.is_open(), True)
        self.assertEqual((len(kept), bool(kept)), (len(places), len(places) > 0))
        self.assertEqual((str(kept), repr(kept)), (strip_text(places), f"Strip({len(places)}, {make})"))
        for card in (-1, len(places), MILLION):
            self.assertEqual(refusal(kept.place, card), ("NoCard", "card", card))
            self.assertEqual(refusal(kept.origin, card), ("NoCard", "card", card))
        for card in (-1, len(beside.first), MILLION):
            self.assertEqual(refusal(kept.now_of, card), ("NoCard", "card", card))
        anew = Strip(places, make=make, every=every)
        self.assertTrue(kept == anew and anew == kept)
        self.assertFalse(kept != anew)
        self.assertEqual((str(anew), repr(anew), anew.lines()), (str(kept), repr(kept), kept.lines()))

    def tables(self, kept, make, every):
        wanted = written(kept.places(), make=make, every=every)
        self.assertEqual(kept.table(), wanted)
        self.assertEqual(Strip(kept.places(), make=make, every=every).table(), wanted)

    def does(self, kept, beside, chance):
        """One deed by chance, to both; some are refused."""
        way = chance.randrange(8)
        if way < 2:
            word = ("back", "forth")[way]
            told = kept.back() if word == "back" else kept.forth()
            self.assertIs(told, beside.shift(word))
            return
        cards = len(beside.behind()[0])
        if way < 6:
            turns = [any_turn(chance, cards)]
            if chance.randrange(6) == 0:
                turns = [chance.choice(NO_TURNS)]
        else:
            turns = row_of_turns(chance, beside.behind()[0], chance.randrange(4))
            if chance.randrange(3) == 0:
                turns.insert(chance.randrange(len(turns) + 1), ("take", 161, 1))
        word = "turn" if way < 6 else "turn_all"
        broken = [number for number, turn in enumerate(turns) if turn in NO_TURNS]
        wanted = beside.deed(word, [("take", MILLION, 1) if number in broken else turn
                                    for number, turn in enumerate(turns)])
        ask, given = (kept.turn, turns[0]) if way < 6 else (kept.turn_all, turns)
        if wanted is not None:
            self.assertEqual(ask(given), wanted)
            return
        number = 0 if way < 6 else turned_by_the_document(beside.behind()[0], turns)
        self.assertEqual(refusal(ask, given), ("BadTurn", "number", number))

    def test_rows_of_deeds(self):
        chance = random.Random(80)
        for round_ in range(25):
            places = strip(chance, chance.choice((0, 1, 7, 20)))
            make, every = chance.choice((COPIES, HEADS)), chance.randrange(1, 17)
            kept, beside = Strip(places, make=make, every=every), Beside(places)
            for deed in range(25):
                self.does(kept, beside, chance)
                self.same(kept, beside, make=make, every=every)
            self.tables(kept, make, every)
            self.goes_back_and_forth(kept, beside, make, every)

    def goes_back_and_forth(self, kept, beside, make, every):
        while beside.done:
            self.assertIs(kept.back(), beside.shift("back"))
            self.same(kept, beside, make=make, every=every)
        self.assertIs(kept.back(), False)
        beside.shift("back")
        self.assertEqual(kept.places(), beside.first)
        while beside.undone:
            self.assertIs(kept.forth(), beside.shift("forth"))
            self.same(kept, beside, make=make, every=every)
        self.assertIs(kept.forth(), False)
        beside.shift("forth")
        self.same(kept, beside, make=make, every=every)
        self.tables(kept, make, every)

    def test_strips_of_their_own(self):
        chance = random.Random(81)
        for round_ in range(15):
            places = strip(chance, chance.choice((0, 1, 9)))
            kept, beside = Strip(places, make=HEADS, every=5), Beside(places)
            for deed in range(14):
                self.does(kept, beside, chance)
            self.same(kept, beside, make=HEADS, every=5)
            row = [(kept, beside)]
            for many in range(len(beside.done) + 1):
                own = copy.deepcopy(beside)
                own.done, own.undone, own.noted = own.done[:many], [], []
                row.append((kept.as_told(many), own))
            for many in (-1, len(beside.done) + 1, MILLION):
                self.assertEqual(refusal(kept.as_told, many), ("NoDeed", "many", many))
            own = copy.deepcopy(beside)
            own.noted = []
            row.append((kept.twin(), own))
            for one, other in row:
                self.same(one, other, make=HEADS, every=5)
            for turn in range(3):
                chance.shuffle(row)
                for one, other in row:
                    for deed in range(3):
                        self.does(one, other, chance)
                for one, other in row:
                    self.same(one, other, make=HEADS, every=5)
            for one, other in row:
                self.goes_back_and_forth(one, other, HEADS, 5)

    def test_at_the_bounds(self):
        chance = random.Random(82)
        places = strip(chance, 160)
        kept, beside = Strip(places), Beside(places)
        for deed in range(119):
            cards = len(beside.behind()[0])
            turns = [("twice", 0, 160 - cards, 0)] if 80 <= cards < 160 else [("move", deed % 80, 9, 120), ("take", 70, 1)]
            self.assertEqual(kept.turn_all(turns), beside.deed("turn_all", turns))
        turns = row_of_turns(chance, beside.behind()[0], 40)
        self.assertEqual(kept.turn_all(turns), beside.deed("turn_all", turns))
        self.assertEqual(kept.deeds(), 120)
        self.same(kept, beside)
        self.tables(kept, COPIES, 16)
        self.same(kept.as_told(0), Beside(places))
        while beside.done:
            self.assertIs(kept.back(), beside.shift("back"))
        self.assertEqual(kept.places(), places)
        for deed in range(120):
            self.assertIs(kept.forth(), beside.shift("forth"))
        self.same(kept, beside)


class Made(unittest.TestCase):
    def test_of_nothing(self):
        for kept in (Strip(), Strip(()), Strip([]), Strip(places=[])):
            self.assertEqual((kept.places(), kept.table(), kept.lines(), kept.deeds(), kept.log()), ([], [], [], 0, []))
            self.assertEqual((len(kept), bool(kept), str(kept), repr(kept)), (0, False, "", "Strip(0, copies)"))
            self.assertEqual(kept.cards_of(1), [])
            self.assertEqual((kept.back(), kept.forth()), (False, False))

    def test_arguments(self):
        places = strip_in("3 - 4.1-2")
        kept = Strip(every=2, make="heads", places=places)
        self.assertEqual(kept.table(), written(places, make=HEADS, every=2))
        self.assertEqual(Strip(tuple(places)).table(), written(places, make="copies", every=16))
        for given in ((places, COPIES), (places, COPIES, 3)):
            with self.assertRaises(TypeError):
                Strip(*given)
        self.assertEqual(kept.turn(turn=("take", 0, 1)), [3])
        self.assertEqual(kept.turn_all(turns=[]), [])
        self.assertEqual(kept.place(card=1), Place(4, begin=1, end=2))
        self.assertEqual(kept.cards_of(line=4), [(1, 1)])
        self.assertEqual((kept.origin(card=1), kept.now_of(card=2)), ([2], [1]))
        self.assertEqual(kept.as_told(many=0).places(), places)

    def test_makes(self):
        places = [Place(line) for line in range(1, 31)]
        self.assertNotEqual(Strip(places).table(), Strip(places, make=HEADS).table())
        kept = Strip(places, make=HEADS, every=7)
        for own in (kept, kept.twin(), kept.as_told(0)):
            own.turn(("take", 0, 3))
            self.assertEqual(own.table(), written(places[3:], make=HEADS, every=7))
            self.assertEqual(repr(own), "Strip(27, heads)")

    def test_equal(self):
        places = strip_in("3 - 4.1-2")
        kept = Strip(places)
        turned = Strip(places[1:])
        turned.turn(("put", 0, (Place(3),)))
        for same in (Strip(tuple(places)), turned, kept.twin(), kept.as_told(0)):
            self.assertTrue(kept == same and same == kept)
            self.assertFalse(kept != same)
        for other in (Strip(places, make=HEADS), Strip(places, every=15), Strip(), Strip(places[:2]),
                      Strip(places[::-1]), Strip(places + [NOWHERE]), Strip(strip_in("3 - 4.1-3"))):
            self.assertFalse(kept == other)
            self.assertTrue(kept != other)
        for thing in (None, 3, True, str(kept), places, tuple(places), kept.table(), Place(3), (), [], ""):
            self.assertFalse(kept == thing)
            self.assertTrue(kept != thing)
            self.assertFalse(thing == kept)
        self.assertFalse(Strip() == [])

    def test_methods_stand_in_the_class_itself(self):
        for name in ("__init__", "turn", "turn_all", "back", "forth", "log", "is_open", "places", "place", "table",
                     "cards_of", "lines", "origin", "now_of", "deeds", "as_told", "twin", "__len__", "__eq__", "__str__",
                     "__repr__"):
            self.assertIn(name, vars(Strip))


class Deeds(unittest.TestCase):
    def test_turn_tells_lost_of_the_places_ahead(self):
        kept = Strip(strip_in("1 2 3"))
        self.assertEqual(kept.turn(("lines", 1, 0, 4)), [])
        self.assertEqual(kept.turn(("take", 0, 1)), [5])
        self.assertEqual(kept.turn(("put", 0, (Place(9),))), [])
        self.assertEqual(kept.turn(("one", 0, 2)), [6])
        self.assertEqual(kept.turn(("move", 0, 1, 2)), [])
        self.assertEqual(kept.turn(("twice", 0, 2, 2)), [])
        self.assertEqual(str(kept), "7 9 7 9")
        self.assertEqual(kept.turn_all([("take", 0, 1), ("lines", 9, 1, 0)]), [9])
        self.assertEqual(str(kept), "- 7 -")

    def test_turn_all(self):
        kept = Strip(strip_in("1 2 3"))
        self.assertEqual(kept.turn_all([]), [])
        self.assertEqual(kept.turn_all(()), [])
        self.assertEqual((kept.deeds(), str(kept)), (2, "1 2 3"))
        self.assertEqual(kept.turn_all((("take", 0, 1),)), [1])
        self.assertEqual(kept.turn_all([("take", 0, 1), ("take", 0, 1), ("put", 0, (Place(2),))]), [2, 3])
        self.assertEqual((kept.deeds(), str(kept)), (4, "2"))
        self.assertIs(kept.back(), True)
        self.assertEqual((kept.deeds(), str(kept)), (3, "2 3"))

    def test_refused_turns(self):
        kept = Strip(strip_in("1 2 1000000"))
        for turn in (*NO_TURNS, ("take", 0, 4), ("put", 0, (PART,) * 158), ("lines", 1, 0, 1), ("move", 0, 2, 1)):
            self.assertEqual(refusal(kept.turn, turn), ("BadTurn", "number", 0))
            for turns, number in (([turn], 0), ([("take", 0, 1), ("put", 0, (PART,)), turn, ("take", 0, 1)], 2),
                                  ((("lines", 9, 0, 0), turn), 1)):
                self.assertEqual(refusal(kept.turn_all, turns), ("BadTurn", "number", number))
        self.assertEqual((kept.deeds(), str(kept), kept.back()), (0, "1 2 1000000", False))

    def test_none_to_be_done_again_behind_a_turn(self):
        for deed in (lambda kept: kept.turn(("take", 0, 1)), lambda kept: kept.turn_all([("take", 0, 1)]),
                     lambda kept: kept.turn_all([])):
            kept = Strip(strip_in("1 2 3"))
            kept.turn(("take", 2, 1))
            kept.turn(("take", 1, 1))
            self.assertEqual((kept.back(), kept.back()), (True, True))
            deed(kept)
            ahead = str(kept)
            self.assertEqual((kept.forth(), str(kept), kept.deeds()), (False, ahead, 1))
            self.assertEqual((kept.back(), str(kept)), (True, "1 2 3"))
            self.assertEqual((kept.forth(), str(kept)), (True, ahead))

    def test_still_there_behind_a_refused_turn(self):
        for deed in (lambda kept: kept.turn(("take", 9, 1)), lambda kept: kept.turn_all([("take", 0, 1), None]),
                     lambda kept: kept.turn(None)):
            kept = Strip(strip_in("1 2 3"))
            kept.turn(("take", 2, 1))
            kept.turn(("take", 1, 1))
            self.assertEqual((kept.back(), kept.back()), (True, True))
            self.assertIsNotNone(refusal(deed, kept))
            self.assertEqual((kept.forth(), str(kept)), (True, "1 2"))
            self.assertIsNotNone(refusal(deed, kept))
            self.assertEqual((kept.forth(), str(kept), kept.forth()), (True, "1", False))

    def test_the_last_one_taken_back_is_done_again_first(self):
        kept = Strip()
        for line in (1, 2, 3):
            kept.turn(("put", 0, (Place(line),)))
        self.assertEqual([kept.back() for time in range(4)], [True, True, True, False])
        told = []
        while kept.forth():
            told.append(str(kept))
        self.assertEqual(told, ["1", "2 1", "3 2 1"])

    def test_log(self):
        kept = Strip(strip_in("1 2"))
        wanted = []
        for word, ask in (("turn", lambda: kept.turn(("take", 0, 1))), ("turn", lambda: kept.turn(None)),
                          ("turn_all", lambda: kept.turn_all([])), ("turn_all", lambda: kept.turn_all([None])),
                          ("back", kept.back), ("back", kept.back), ("back", kept.back), ("forth", kept.forth),
                          ("forth", kept.forth), ("forth", kept.forth), ("turn", lambda: kept.turn(["take", 0, 1]))):
            refusal(ask)
            wanted += [("in", word), ("out", word)]
            self.assertEqual(kept.log(), wanted)
            self.assertEqual({type(pair) for pair in kept.log()}, {tuple})
            self.assertIs(kept.is_open(), True)
        self.assertEqual(Strip().log(), [])
        self.assertIs(Strip().is_open(), True)

    def test_asks_are_not_logged(self):
        kept = Strip(strip_in("1 2"))
        kept.places(), kept.place(0), kept.table(), kept.cards_of(1), kept.lines(), kept.origin(0), kept.now_of(0)
        kept.deeds(), kept.as_told(0), kept.twin(), len(kept), str(kept), repr(kept), kept == Strip(), kept.is_open()
        refusal(kept.place, 9), refusal(kept.as_told, 9)
        self.assertEqual(kept.log(), [])

    def test_begun_ahead_of_what_it_does(self):
        class Asking(list):
            """Turns that ask the strip while they are done."""

            def __iter__(self):
                seen.append((kept.is_open(), kept.log()))
                return iter([("take", 0, 1)])

        seen = []
        kept = Strip(strip_in("1 2"))
        kept.turn_all(Asking())
        self.assertEqual({repr(row) for row in seen}, {repr((False, [("in", "turn_all")]))})
        self.assertIs(kept.is_open(), True)


class Asks(unittest.TestCase):
    def test_origin_and_now_of(self):
        kept = Strip(strip_in("1 2 3 4"))
        kept.turn(("twice", 0, 2, 4))
        kept.turn(("one", 3, 2))
        kept.turn(("put", 0, (NOWHERE,)))
        self.assertEqual([kept.origin(card) for card in range(len(kept))], [[], [0], [1], [2], [0, 3], [1]])
        self.assertEqual([kept.now_of(card) for card in range(4)], [[1, 4], [2, 5], [3], [4]])
        kept.turn(("take", 2, 1))
        kept.turn(("lines", 1, 9, 0))
        self.assertEqual([kept.now_of(card) for card in range(4)], [[1, 3], [4], [2], [3]])
        self.assertEqual(str(kept), "5*-")
        kept.turn(("take", 0, 5))
        self.assertEqual([kept.now_of(card) for card in range(4)], [[], [], [], []])
        self.assertEqual(refusal(kept.now_of, 4), ("NoCard", "card", 4))
        self.assertEqual(refusal(kept.origin, 0), ("NoCard", "card", 0))

    def test_refusals(self):
        kept = Strip(strip_in("1 2"))
        for ask in (kept.place, kept.origin, kept.now_of):
            for card in (-1, -2, 2, 160, MILLION):
                with self.assertRaises(NoCard) as caught:
                    ask(card)
                self.assertEqual(caught.exception.card, card)
        for many in (-1, 1, MILLION):
            with self.assertRaises(NoDeed) as caught:
                kept.as_told(many)
            self.assertEqual(caught.exception.many, many)
        with self.assertRaises(BadTurn) as caught:
            kept.turn(("take", 2, 1))
        self.assertEqual(caught.exception.number, 0)

    def test_deeds_taken_back_are_not_told(self):
        kept = Strip(strip_in("1 2"))
        kept.turn(("take", 0, 1))
        kept.turn(("take", 0, 1))
        kept.back()
        self.assertEqual(kept.deeds(), 1)
        self.assertEqual(refusal(kept.as_told, 2), ("NoDeed", "many", 2))
        self.assertEqual([str(kept.as_told(many)) for many in (0, 1)], ["1 2", "2"])
        self.assertIs(kept.as_told(1).forth(), False)
        self.assertIs(kept.twin().forth(), True)
        self.assertEqual(str(kept), "2")
        self.assertIs(kept.forth(), True)

    def test_as_told_of_as_told(self):
        kept = Strip(strip_in("1 2 3"))
        for many in range(3):
            kept.turn(("take", 0, 1))
        again = kept.as_told(2).as_told(1)
        self.assertEqual((str(again), again.origin(0), again.now_of(0), again.deeds()), ("2 3", [1], [], 1))
        self.assertEqual((again.back(), str(again), again.back(), again.forth(), str(again)),
                         (True, "1 2 3", False, True, "2 3"))
        self.assertEqual(kept.twin().twin().deeds(), 3)


class OfItsOwn(unittest.TestCase):
    def test_lists_are_not_kept(self):
        places = strip_in("1 2 3")
        kept = Strip(places)
        turns = [("take", 0, 1)]
        kept.turn_all(turns)
        places.clear()
        turns.append(("take", 0, 1))
        self.assertEqual((str(kept), kept.origin(0)), ("2 3", [1]))
        kept.back()
        self.assertEqual(str(kept), "1 2 3")
        kept.forth()
        self.assertEqual(str(kept), "2 3")
        self.assertEqual(turns, [("take", 0, 1)] * 2)

    def test_told_lists_are_the_askers_own(self):
        def made():
            kept = Strip(strip_in("1 2 3.1-4.2 -"))
            kept.turn(("twice", 0, 2, 4))
            kept.turn(("one", 0, 2))
            kept.turn(("take", 0, 1))
            kept.back()
            return kept

        kept = made()
        asks = (kept.places, kept.table, lambda: kept.cards_of(1), kept.lines, lambda: kept.origin(0), kept.log,
                lambda: kept.now_of(1), lambda: kept.turn_all([]))
        for ask in asks[:-1]:
            first, second = ask(), ask()
            self.assertIsNot(first, second)
            self.assertEqual(first, second)
            self.assertIs(type(first), list)
            wanted = copy.deepcopy(first)
            first.append("bent")
            first.reverse()
            self.assertEqual((second, ask()), (wanted, wanted))
        self.assertTrue(kept == made())
        self.assertEqual(kept.log(), made().log())
        gone = kept.turn(("take", 0, 5))
        gone.append("bent")
        self.assertEqual(kept.places(), [])
        self.assertEqual((kept.back(), kept.places()), (True, made().places()))

    def test_a_refusal_changes_nothing_but_the_log(self):
        kept = Strip(strip_in("1 2 3.1-4.2 -"), every=3)
        kept.turn(("one", 0, 2))
        kept.turn(("take", 0, 1))
        kept.back()
        ahead = copy.deepcopy([kept.places(), kept.table(), kept.deeds(), [kept.origin(card) for card in range(3)]])
        for ask, given in ((kept.turn, None), (kept.turn_all, [("take", 0, 1), None]), (kept.place, 9), (kept.origin, 9),
                           (kept.now_of, 9), (kept.as_told, 9)):
            self.assertIsNotNone(refusal(ask, given))
            self.assertEqual([kept.places(), kept.table(), kept.deeds(), [kept.origin(card) for card in range(3)]], ahead)
        self.assertEqual((kept.forth(), str(kept)), (True, "3.1-4.2 -"))

    def test_places_stay(self):
        kept = Strip([PART, LONG])
        kept.turn(("lines", 1, 0, 5))
        self.assertEqual((str(PART), str(LONG)), ("2.1-3", "3.5-4.1"))
        self.assertEqual(str(kept), "7.1-3 8.5-9.1")


if __name__ == "__main__":
    unittest.main()
