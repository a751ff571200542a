"""What point [2] says of all things that are handed in and told, and the names of the interface."""

import copy
import inspect
import unittest

from cardlines import desk, entries, figures, hexes, joining, leading, least, leastcheck, pairs, places, placetext, reading
from cardlines import remaking, runs, seals, tables, tabletext, turns
from cardlines.places import Place
from cardlines.reader import Reader
from cardlines.strip import Strip
from tests.things import forms

STRIP = [Place(3), Place(3), Place(), Place(3, begin=4, end=9), Place(3, 5, begin=4, end=9)]
ROW = [("next", 2), ("none", 1), ("part", 1, 0, 4, 5), ("copy", 3, 2, 1), ("same", 1)]
TABLE = tables.written(STRIP * 5, every=7)
BARE = [Place(3), Place(3), Place(), Place(900), Place(), Place(3)]
TURNED = [("put", 1, (Place(7), Place())), ("twice", 0, 3, 2), ("lines", 4, 1, 3), ("one", 0, 2), ("move", 0, 2, 5),
          ("take", 1, 2)]
NAMED = inspect.Parameter.KEYWORD_ONLY
PLAIN = inspect.Parameter.POSITIONAL_OR_KEYWORD

ASKS = (
    (runs.runs_of, {"places": STRIP}),
    (runs.places_of, {"runs": [(2, Place(3)), (1, Place())]}),
    (runs.run_at, {"places": STRIP, "card": 1}),
    (runs.strip_text, {"places": STRIP}),
    (runs.strip_in, {"text": "2*3 - 3.4-9"}),
    (runs.strip_in, {"text": ""}),
    (runs.cards_of, {"places": STRIP, "line": 3}),
    (runs.lines_of, {"places": STRIP}),
    (figures.number_bytes, {"number": 4097}),
    (figures.number_bytes, {"number": 0}),
    (figures.signed_bytes, {"number": -4097}),
    (figures.number_at, {"codes": [255, 65, 64, 1, 0], "at": 1}),
    (figures.signed_at, {"codes": [255, 65, 64, 1, 0], "at": 1}),
    (entries.is_entry, {"thing": ["none", 1]}),
    (entries.is_entry, {"thing": ("none", [1, [2]])}),
    (entries.entry_bytes, {"entry": ("line", 1, 77)}),
    (entries.entry_at, {"codes": [192, 0, 4, 5, 9], "at": 0}),
    (leading.led, {"entries": ROW, "line": 5}),
    (leading.led, {"entries": [], "line": 5}),
    (leading.line_behind, {"entries": ROW, "line": 5}),
    (placetext.place_in, {"text": "3.4-9"}),
    (least.least_entries, {"places": STRIP * 3, "line": 2, "make": "copies"}),
    (least.least_entries, {"places": STRIP * 3, "make": "heads"}),
    (least.least_entries, {"places": []}),
    (least.prices, {"places": STRIP * 3, "line": 2, "make": "heads"}),
    (least.prices, {"places": []}),
    (leastcheck.shows_least, {"places": STRIP, "entries": least.least_entries(STRIP), "prices": least.prices(STRIP)}),
    (leastcheck.shows_least, {"places": [], "entries": [], "prices": [0], "line": 3, "make": "heads"}),
    (leastcheck.shows_least, {"places": STRIP, "entries": [["none", 1], [[2]]], "prices": [[0], [1, [2]]]}),
    (tables.written, {"places": STRIP * 8, "make": "heads", "every": 7}),
    (tables.written, {"places": []}),
    (tables.read, {"codes": TABLE}),
    (tables.read, {"codes": []}),
    (tables.tear_of, {"codes": TABLE}),
    (tables.tear_of, {"codes": TABLE[:-1] + [0]}),
    (tables.marks_of, {"codes": TABLE}),
    (reading.saved, {"codes": TABLE}),
    (reading.saved, {"codes": [7] + TABLE + TABLE}),
    (reading.saved, {"codes": []}),
    (reading.place_at, {"codes": TABLE, "card": 9}),
    (reading.read_from, {"codes": TABLE, "at": 1}),
    (reading.read_from, {"codes": TABLE, "at": len(TABLE)}),
    (seals.sealed, {"codes": TABLE * 5}),
    (seals.sealed, {"codes": []}),
    (seals.unsealed, {"codes": seals.sealed(TABLE * 5)}),
    (seals.unsealed, {"codes": []}),
    (seals.bent_in, {"codes": [1, 0, 1, 0, 2]}),
    (seals.bent_in, {"codes": []}),
    (seals.mended, {"codes": [1, 0, 1, 0, 2]}),
    (seals.mended, {"codes": seals.sealed(TABLE)}),
    (pairs.pairs_written, {"places": BARE * 3, "line": 900}),
    (pairs.pairs_written, {"places": []}),
    (pairs.pairs_read, {"codes": pairs.pairs_written(BARE, line=900), "line": 900}),
    (pairs.pairs_read, {"codes": []}),
    (pairs.pairs_back, {"codes": pairs.pairs_written(BARE, line=900), "line": 3}),
    (pairs.pairs_back, {"codes": [], "line": 3}),
    (remaking.bared, {"places": STRIP}),
    (remaking.bared, {"places": []}),
    (remaking.remade, {"codes": TABLE, "make": "copies", "every": 3}),
    (remaking.remade, {"codes": tables.written(BARE), "make": "pairs"}),
    (remaking.remade, {"codes": []}),
    (remaking.alike, {"one": TABLE, "other": tables.written(STRIP), "columns": False}),
    (remaking.alike, {"one": TABLE, "other": list(TABLE)}),
    (turns.is_turn, {"thing": ["take", 0, 1]}),
    (turns.is_turn, {"thing": ("put", 0, [Place(3), [2]])}),
    (turns.turned, {"places": STRIP, "turns": TURNED}),
    (turns.turned, {"places": STRIP, "turns": []}),
    (turns.turned, {"places": [], "turns": []}),
    (turns.origins, {"many": 5, "turns": TURNED}),
    (turns.origins, {"many": 5, "turns": []}),
    (turns.lost, {"places": STRIP, "turns": TURNED}),
    (turns.lost, {"places": STRIP, "turns": []}),
    (joining.joined, {"one": TABLE, "other": tables.written(STRIP), "by": -1, "make": "heads", "every": 5}),
    (joining.joined, {"one": TABLE, "other": []}),
    (joining.joined, {"one": [], "other": []}),
    (joining.cut, {"codes": TABLE, "first": 0, "last": 24, "make": "copies", "every": 7}),
    (joining.cut, {"codes": TABLE, "first": 3, "last": 9}),
    (joining.table_turned, {"codes": TABLE, "turns": TURNED, "make": "heads", "every": 4}),
    (joining.table_turned, {"codes": TABLE, "turns": []}),
    (hexes.hex_text, {"codes": TABLE}),
    (hexes.hex_in, {"text": "ff 00\n\n0a"}),
    (hexes.hex_in, {"text": ""}),
    (tabletext.table_text, {"codes": TABLE}),
    (tabletext.table_in, {"text": tabletext.table_text(TABLE)}),
    (tabletext.table_in, {"text": ""}),
    (desk.answers, {"text": "put 0 3 - 4.1-2\ntake 0 1\nstrip\nback\ntable\nplace 9", "make": "heads"}),
    (desk.answers, {"text": ""}),
    (Strip, {"places": STRIP, "make": "heads", "every": 3}),
    (Strip, {"places": []}),
)
# Of these a list alone is what is asked of, and a tuple is none.
ASKED_OF = ("thing", "entries", "prices")

SIGNATURES = (
    (Place, (("line", PLAIN, None), ("last", PLAIN, None), ("begin", NAMED, None), ("end", NAMED, None))),
    (Place.has, (("self",), ("line",))), (Place.moved, (("self",), ("by",))),
    (placetext.place_in, (("text",),)),
    (runs.runs_of, (("places",),)), (runs.places_of, (("runs",),)), (runs.run_at, (("places",), ("card",))),
    (runs.strip_text, (("places",),)), (runs.strip_in, (("text",),)),
    (runs.cards_of, (("places",), ("line",))), (runs.lines_of, (("places",),)),
    (figures.number_bytes, (("number",),)), (figures.signed_bytes, (("number",),)),
    (figures.number_at, (("codes",), ("at",))), (figures.signed_at, (("codes",), ("at",))),
    (entries.is_entry, (("thing",),)), (entries.entry_bytes, (("entry",),)), (entries.entry_at, (("codes",), ("at",))),
    (leading.led, (("entries",), ("line", NAMED, 0))), (leading.line_behind, (("entries",), ("line", NAMED, 0))),
    (least.least_entries, (("places",), ("line", NAMED, 0), ("make", NAMED, "copies"))),
    (least.prices, (("places",), ("line", NAMED, 0), ("make", NAMED, "copies"))),
    (leastcheck.shows_least,
     (("places",), ("entries",), ("prices",), ("line", NAMED, 0), ("make", NAMED, "copies"))),
    (tables.written, (("places",), ("make", NAMED, "copies"), ("every", NAMED, 16))),
    (tables.read, (("codes",),)), (tables.tear_of, (("codes",),)), (tables.marks_of, (("codes",),)),
    (reading.saved, (("codes",),)), (reading.place_at, (("codes",), ("card",))),
    (reading.read_from, (("codes",), ("at",))),
    (Reader, (("codes",),)), (Reader.on, (("self",),)), (Reader.here, (("self",),)), (Reader.run, (("self",),)),
    (Reader.forth, (("self",), ("many", NAMED, 1))), (Reader.back, (("self",), ("many", NAMED, 1))),
    (Reader.seek, (("self",), ("card",))), (Reader.skip, (("self",), ("back", NAMED, False))),
    (seals.sealed, (("codes",),)), (seals.unsealed, (("codes",),)), (seals.bent_in, (("codes",),)),
    (seals.mended, (("codes",),)),
    (pairs.pairs_written, (("places",), ("line", NAMED, 0))), (pairs.pairs_read, (("codes",), ("line", NAMED, 0))),
    (pairs.pairs_back, (("codes",), ("line",))),
    (remaking.bared, (("places",),)), (remaking.remade, (("codes",), ("make", NAMED, "heads"), ("every", NAMED, 16))),
    (remaking.alike, (("one",), ("other",), ("columns", NAMED, True))),
    (turns.is_turn, (("thing",),)), (turns.turned, (("places",), ("turns",))), (turns.origins, (("many",), ("turns",))),
    (turns.lost, (("places",), ("turns",))),
    (joining.joined,
     (("one",), ("other",), ("by", NAMED, 0), ("make", NAMED, "copies"), ("every", NAMED, 16))),
    (joining.cut, (("codes",), ("first",), ("last",), ("make", NAMED, "copies"), ("every", NAMED, 16))),
    (joining.table_turned, (("codes",), ("turns",), ("make", NAMED, "copies"), ("every", NAMED, 16))),
    (hexes.hex_text, (("codes",),)), (hexes.hex_in, (("text",),)),
    (tabletext.table_text, (("codes",),)), (tabletext.table_in, (("text",),)),
    (desk.answers, (("text",), ("make", NAMED, "copies"))),
    (Strip, (("places", PLAIN, ()), ("make", NAMED, "copies"), ("every", NAMED, 16))),
    (Strip.turn, (("self",), ("turn",))), (Strip.turn_all, (("self",), ("turns",))), (Strip.back, (("self",),)),
    (Strip.forth, (("self",),)), (Strip.log, (("self",),)), (Strip.is_open, (("self",),)), (Strip.places, (("self",),)),
    (Strip.place, (("self",), ("card",))), (Strip.table, (("self",),)), (Strip.cards_of, (("self",), ("line",))),
    (Strip.lines, (("self",),)), (Strip.origin, (("self",), ("card",))), (Strip.now_of, (("self",), ("card",))),
    (Strip.deeds, (("self",),)), (Strip.as_told, (("self",), ("many",))), (Strip.twin, (("self",),)),
)


def lists_in(thing):
    """All lists of a thing, itself too, as objects."""
    found = [thing] if isinstance(thing, list) else []
    if isinstance(thing, (list, tuple)):
        for part in thing:
            found += lists_in(part)
    return found


def by_place(ask, named):
    """What is told where all that may be handed in by place is."""
    kinds = inspect.signature(ask).parameters
    given = [named[name] for name in named if kinds[name].kind == PLAIN]
    rest = {name: named[name] for name in named if kinds[name].kind == NAMED}
    return ask(*given, **rest)


class Manners(unittest.TestCase):
    def test_by_place_and_by_name(self):
        for ask, named in ASKS:
            with self.subTest(ask.__name__):
                self.assertEqual(by_place(ask, named), ask(**named))
                backwards = {name: named[name] for name in reversed(list(named))}
                self.assertEqual(ask(**backwards), ask(**named))

    def test_what_is_handed_in_stays(self):
        for ask, named in ASKS:
            with self.subTest(ask.__name__):
                ahead = copy.deepcopy(named)
                ask(**named)
                self.assertEqual(named, ahead)
                self.assertEqual(repr(named), repr(ahead))

    def test_what_is_told_is_the_askers_own(self):
        for ask, named in ASKS:
            with self.subTest(ask.__name__):
                first = ask(**named)
                wanted = copy.deepcopy(first)
                second = ask(**named)
                seen = lists_in(first) + lists_in(second) + [part for thing in named.values() for part in lists_in(thing)]
                self.assertEqual(len({id(part) for part in seen}), len(seen))
                for part in lists_in(first):
                    part.append("bent")
                    part.reverse()
                self.assertEqual(second, wanted)
                self.assertEqual(ask(**named), wanted)

    def test_lists_and_tuples_are_the_same(self):
        for ask, named in ASKS:
            asked_of = ASKED_OF if ask in (entries.is_entry, leastcheck.shows_least, turns.is_turn) else ()
            with self.subTest(ask.__name__):
                tuples = {name: tuple(thing) if isinstance(thing, list) and name not in asked_of else thing
                          for name, thing in named.items()}
                self.assertEqual(ask(**tuples), ask(**named))

    def test_what_was_told_may_be_handed_in_again(self):
        told = leading.led([("next", 16)] * 60)
        self.assertEqual(len(told), 960)
        self.assertEqual(runs.places_of(runs.runs_of(told)), told)
        self.assertEqual(runs.lines_of(told), list(range(1, 61)))
        self.assertEqual(runs.cards_of(told, 60), [(944, 959)])
        self.assertEqual(runs.run_at(told, 959), (944, 959, Place(60)))
        self.assertEqual(len(runs.strip_text(told).split(" ")), 60)

    def test_tables_that_were_told_may_be_handed_in_again(self):
        told = leading.led([("next", 16)] * 60)
        codes = tables.written(told, every=1)
        self.assertGreater(len(codes), 2000)
        self.assertEqual(tables.read(codes), told)
        self.assertIsNone(tables.tear_of(codes))
        self.assertEqual(len(tables.marks_of(codes)), 960)
        self.assertEqual(len(reading.saved(codes)), 960)
        self.assertEqual(reading.read_from(codes, 0), (0, told))
        self.assertEqual(reading.place_at(codes, 959), told[959])
        self.assertEqual(len(Reader(codes)), 960)
        self.assertEqual(seals.unsealed(seals.sealed(codes)), codes)
        self.assertEqual(seals.bent_in(seals.sealed(codes)), [])
        self.assertEqual(pairs.pairs_read(pairs.pairs_written(told)), told)
        self.assertEqual(remaking.remade(codes, make="copies"), tables.written(told))
        self.assertEqual(remaking.remade(codes, make="pairs"), pairs.pairs_written(told))
        self.assertIsNone(remaking.alike(codes, tables.written(told)))
        self.assertEqual(joining.cut(codes, 900, 959), tables.written(told[900:]))
        self.assertEqual(turns.turned(told, []), told)
        self.assertEqual(turns.turned(told, [("take", 100, 800)]), told[:100] + told[900:])
        self.assertEqual(hexes.hex_in(hexes.hex_text(codes)), codes)
        self.assertEqual(tabletext.table_in(tabletext.table_text(codes)), codes)
        kept = Strip(told, every=1)
        self.assertEqual((kept.places(), kept.table(), kept.deeds()), (told, codes, 0))
        self.assertEqual((kept.turn_all([]), kept.now_of(959), kept.twin() == kept), ([], [959], True))

    def test_places_stay_as_they_are(self):
        strip = forms()[:160]
        ahead = [str(place) for place in strip]
        runs.runs_of(strip), runs.strip_text(strip), runs.lines_of(strip), runs.cards_of(strip, 3), runs.run_at(strip, 0)
        self.assertEqual([str(place) for place in strip], ahead)


class Interface(unittest.TestCase):
    def test_names_of_arguments(self):
        for ask, wanted in SIGNATURES:
            with self.subTest(ask.__name__):
                told = inspect.signature(ask).parameters.values()
                wanted = [row if len(row) == 3 else (row[0], PLAIN, inspect.Parameter.empty) for row in wanted]
                self.assertEqual([(one.name, one.kind, one.default) for one in told], wanted)

    def test_methods_stand_in_the_class_itself(self):
        for name in ("has", "moved", "__len__", "__eq__", "__str__", "__repr__"):
            self.assertIn(name, vars(places.Place))


if __name__ == "__main__":
    unittest.main()
