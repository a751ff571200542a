"""A reader that stands on a card of a table and goes forth and back."""

from cardlines.errors import NoCard
from cardlines.runs import run_at
from cardlines.tables import read


class Reader:
    """Stands on a card of a table, or behind the last one."""

    def __init__(self, codes):
        self.held = read(codes)
        self.stand = 0

    def on(self):
        """The card on which it stands, how many there are where it stands behind the last one."""
        return self.stand

    def here(self):
        """The place of its card, None behind the last one."""
        return self.held[self.stand] if self.stand < len(self.held) else None

    def forth(self, *, many=1):
        """Goes so many cards on, as far as there are; told is how many it went."""
        went = max(0, min(many, len(self.held) - self.stand))
        self.stand += went
        return went

    def back(self, *, many=1):
        """Goes so many cards back, as far as there are; told is how many it went."""
        went = max(0, min(many, self.stand))
        self.stand -= went
        return went

    def seek(self, card):
        """Stands on that card, or behind the last one."""
        if not 0 <= card <= len(self.held):
            raise NoCard(card)
        self.stand = card

    def run(self):
        """The tuple (first, last, place) of the run of its card, None behind the last one."""
        return run_at(self.held, self.stand) if self.stand < len(self.held) else None

    def skip(self, *, back=False):
        """Goes to the card behind its run, or back to the first card of the run ahead; told is how many it went."""
        run = self.run()
        if not back:
            return 0 if run is None else self.forth(many=run[1] + 1 - self.stand)
        # Behind the last card it stands in no run, and the one ahead is the last of all.
        begin = self.stand if run is None else run[0]
        if begin == 0:
            return 0
        return self.back(many=self.stand - run_at(self.held, begin - 1)[0])

    def __len__(self):
        return len(self.held)

    def __eq__(self, other):
        return isinstance(other, Reader) and self.held == other.held

    def __str__(self):
        if self.stand == len(self.held):
            return "end"
        return str(self.held[self.stand])

    def __repr__(self):
        return f"Reader({self.stand} of {len(self.held)})"
