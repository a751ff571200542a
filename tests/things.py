"""What several tests hand in: things of all the kinds that point [2] names, and Places of all forms."""

from cardlines.places import Place

NO_NUMBERS = (True, False, "", "3", "line", [], [3], (), (3,), (3, 4), Place(), Place(3), Place(3, begin=1, end=2))


def nested(thing, deep):
    """A thing in so many lists and tuples by turns."""
    for level in range(deep):
        thing = [thing] if level % 2 else (thing,)
    return thing


def forms():
    """Places of all four forms, at their bounds and within."""
    lines = (1, 2, 3, 10, 99, 999901, 999999, 10 ** 6)
    columns = (0, 1, 4, 9, 10, 9999, 10 ** 4)
    made = [Place()]
    for line in lines:
        made.append(Place(line))
        for begin in columns:
            for end in columns:
                if end >= begin:
                    made.append(Place(line, begin=begin, end=end))
                for more in (1, 2, 98, 99):
                    if line + more <= 10 ** 6:
                        made.append(Place(line, line + more, begin=begin, end=end))
    return made


def fields(place):
    return (place.line, place.last, place.begin, place.end)


def refusal(ask, *given, **named):
    """The pair of the class and the one field of what an ask is refused with; None where it isn't."""
    try:
        ask(*given, **named)
    except (ValueError, LookupError, OverflowError) as refused:
        (field, worth), = vars(refused).items()
        return type(refused).__name__, field, worth
    return None
