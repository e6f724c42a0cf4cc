"""Studios: a place where pulls are made on a card, taken back and made in other orders."""

from slitstairs.cards import Card
from slitstairs.columns import is_whole
from slitstairs.errors import BadLot, BadStudio, NoSuch, Rests
from slitstairs.pulls import pull_box, pull_card
from slitstairs.resting import above_rows, are_ascending, check_let, check_table, rest_table


class Trial:
    """For a with statement: behind its block the studio is again what it was when the block began."""

    def __init__(self, studio):
        self.studio = studio
        self.card = None
        self.pulls = None
        self.boxes = None

    def __enter__(self):
        self.card = self.studio.card
        self.pulls = self.studio.pulls
        self.boxes = self.studio.boxes
        return self.studio

    def __exit__(self, kind, value, trace):
        studio = self.studio
        studio.card = self.card
        studio.pulls = self.pulls
        studio.boxes = self.boxes


class Studio:
    """A place of work: the card to begin with, the card as it is now, and the pulls made with their boxes."""

    def __init__(self, start):
        if not isinstance(start, Card):
            raise BadStudio("card")
        self.start = start
        self.card = start
        self.pulls = ()
        self.boxes = ()

    @classmethod
    def with_pulls(cls, start, *pulls):
        """Return a studio in which these pulls were made in this order."""
        studio = cls(start)
        for pull in pulls:
            studio.pull(pull)
        return studio

    @property
    def table(self):
        """The table of which pull rests on which."""
        return rest_table(self.boxes)

    def pull(self, pull):
        """Make a pull on the card and return its number."""
        box = pull_box(self.card, pull)
        self.card = pull_card(self.card, pull)
        self.pulls = (*self.pulls, pull)
        self.boxes = (*self.boxes, box)
        return len(self.pulls) - 1

    def check_pull(self, number):
        """Raise NoSuch if no pull has this number."""
        if not is_whole(number, 0, len(self.pulls) - 1):
            raise NoSuch(number)

    def leave_out(self, numbers):
        """Let everything be as if the pulls with these numbers had never been made."""
        kept = [number for number in range(len(self.pulls)) if number not in numbers]
        self.card = card_by(self.start, [self.pulls[number] for number in kept])
        self.pulls = tuple([self.pulls[number] for number in kept])
        self.boxes = tuple([self.boxes[number] for number in kept])

    def take_back(self, number):
        """Take back a pull on which none rests, and return it."""
        self.check_pull(number)
        for by, row in enumerate(self.table):
            if number in row:
                raise Rests(number, by)
        pull = self.pulls[number]
        self.leave_out((number,))
        return pull

    def take_down(self, number):
        """Take back a pull and all that stand on it, and return their numbers."""
        self.check_pull(number)
        lot = (number, *above_rows(self.table)[number])
        self.leave_out(lot)
        return lot

    def replay(self, order):
        """Return a new studio with the same start in which the pulls were made in this order."""
        check_table(self.table)
        check_let(self.table, order)
        studio = Studio(self.start)
        for number in order:
            studio.pull(self.pulls[number])
        return studio

    def card_of(self, lot):
        """Return the card when just the pulls of a closed lot are made."""
        if not are_ascending(lot, len(self.pulls) - 1):
            raise BadLot("lot")
        rows = self.table
        if not all([on in lot for number in lot for on in rows[number]]):
            raise BadLot("open")
        return card_by(self.start, [self.pulls[number] for number in lot])

    def trial(self):
        """Return an object for a with statement that leaves the studio as it was."""
        return Trial(self)

    def tried(self, call):
        """Return what `call` returns for the studio, and leave the studio as it was."""
        with self.trial() as same:
            return call(same)

    def __len__(self):
        return len(self.pulls)

    def __iter__(self):
        return iter(self.pulls)


def card_by(start, pulls):
    """Return the card after these pulls in this order."""
    card = start
    for pull in pulls:
        card = pull_card(card, pull)
    return card
