"""The entries by which cards may be led on to given places, one entry at a time."""

from cardlines.entries import BACK
from cardlines.leading import COPIES, MOST, line_after


def entry_to(place, ahead):
    """The least entry but same and copy that leads one card to a place, by the line ahead."""
    if place.line is None:
        return ("none", 1)
    step = place.line - ahead
    if place.line != place.last:
        return ("long", 1, step, place.last - place.line, place.begin, place.end)
    if place.begin is not None:
        return ("part", 1, step, place.begin, place.end - place.begin)
    # A line with step 1 leads there too, but never in as few bytes.
    return ("next", 1) if step == 1 else ("line", 1, step)


def run_from(places, card):
    """How many cards from this one on, as many as an entry leads at most, have its place."""
    many = 1
    while many < MOST and card + many < len(places) and places[card + many] == places[card]:
        many += 1
    return many


def heads_from(places, card, ahead):
    """The entries but copies that lead from so many cards on."""
    singles = [entry_to(places[card], ahead)]
    if card > 0 and places[card - 1] == places[card]:
        singles.append(("same", 1))
    run = run_from(places, card)
    return [(word, many, *rest) for word, one, *rest in singles for many in range(1, run + 1)]


def shape(place):
    """What a place keeps wherever it is moved."""
    return (len(place), place.begin, place.end)


def copies_from(places, card, back):
    """The copies that lead from so many cards on, each to the place of the card so far back, moved."""
    entries = []
    shift = None
    for place, source in zip(places[card:card + MOST], places[card - back:]):
        if shape(place) != shape(source):
            break
        if place.line is not None:
            by = place.line - source.line
            if shift is not None and shift != by:
                break
            shift = by
        # Nowhere is moved by anything, and no shift has fewer bytes, or goes ahead of those of 0.
        entries.append(("copy", len(entries) + 1, back, 0 if shift is None else shift))
    return entries


def ways_from(places, card, ahead, make):
    """The entries of a make that lead from so many cards on; of those with as many cards, the least is among them."""
    entries = heads_from(places, card, ahead)
    if make == COPIES:
        for back in range(1, min(card, BACK[1]) + 1):
            entries.extend(copies_from(places, card, back))
    return entries


def ways_of(places, line, make):
    """For each card the entries of a make that lead from the cards ahead of it on, with a told line ahead at first."""
    return [ways_from(places, card, line_after(places[:card], line), make) for card in range(len(places))]
