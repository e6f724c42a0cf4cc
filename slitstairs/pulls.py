"""Pulls: a hollow of neighbouring columns is pushed forward, so that a box stands out."""

from slitstairs.cards import MOST_WIDTH, Card
from slitstairs.columns import MOST_SIZE, Column, is_whole
from slitstairs.errors import BadPull
from slitstairs.stacking import pulled_word, pushed_word, run_around


class Pull:
    """A pull of the columns `first` to `last` at a hollow: so many steps down ahead of it and out behind it."""

    def __init__(self, first, last, boundary, *, downs=1, outs=1):
        if not is_whole(last, 0, MOST_WIDTH - 1) or not is_whole(first, 0, last):
            raise BadPull("columns")
        if not is_whole(boundary, 1, 2 * MOST_SIZE - 1):
            raise BadPull("boundary")
        if not is_whole(downs, 1, MOST_SIZE):
            raise BadPull("downs")
        if not is_whole(outs, 1, MOST_SIZE):
            raise BadPull("outs")
        self.first = first
        self.last = last
        self.boundary = boundary
        self.downs = downs
        self.outs = outs

    def mirrored(self, size):
        """Return the pull with wall and floor exchanged, for cards of a size."""
        return Pull(self.first, self.last, 2 * size - self.boundary, downs=self.outs, outs=self.downs)

    def turned(self, width):
        """Return the pull of the turned card, for cards of a width."""
        last = width - 1
        return Pull(last - self.last, last - self.first, self.boundary, downs=self.downs, outs=self.outs)

    def __eq__(self, other):
        return (
            isinstance(other, Pull)
            and self.first == other.first
            and self.last == other.last
            and self.boundary == other.boundary
            and self.downs == other.downs
            and self.outs == other.outs
        )

    def __str__(self):
        return f"{self.first}-{self.last}@{self.boundary}:{self.downs}d{self.outs}o"


class Box:
    """A box: its columns, the place (x, y) of its hollow, and how far it goes out and up."""

    def __init__(self, first, last, x, y, outs, downs):
        self.first = first
        self.last = last
        self.x = x
        self.y = y
        self.outs = outs
        self.downs = downs

    @property
    def squares(self):
        """The squares (column, x, y) of the box."""
        return tuple([
            (c, x, y)
            for c in range(self.first, self.last + 1)
            for x in range(self.x, self.x + self.outs)
            for y in range(self.y, self.y + self.downs)
        ])

    def meets(self, other):
        """Tell whether the boxes have a square in common."""
        return (
            self.first <= other.last and other.first <= self.last
            and self.x < other.x + other.outs and other.x < self.x + self.outs
            and self.y < other.y + other.downs and other.y < self.y + self.downs
        )

    def rests_on(self, other):
        """Tell whether a square of the box is just in front of or just above one of the other, outside of it."""
        if self.meets(other):
            return False
        inward = Box(self.first, self.last, self.x - 1, self.y, self.outs, self.downs)
        downward = Box(self.first, self.last, self.x, self.y - 1, self.outs, self.downs)
        return inward.meets(other) or downward.meets(other)

    def __contains__(self, square):
        c, x, y = square
        return (
            self.first <= c <= self.last
            and self.x <= x < self.x + self.outs
            and self.y <= y < self.y + self.downs
        )

    def __len__(self):
        return len(self.squares)

    def __eq__(self, other):
        return (
            isinstance(other, Box)
            and self.first == other.first
            and self.last == other.last
            and self.x == other.x
            and self.y == other.y
            and self.outs == other.outs
            and self.downs == other.downs
        )


def pulled_columns(card, pull):
    """Return the columns of a pull."""
    return card.columns[pull.first:pull.last + 1]


def crease_fault(card, pull, boundary, kind):
    """Return None if all columns of the pull have such a crease at a boundary, at one place, else what is wrong."""
    columns = pulled_columns(card, pull)
    if not all([(boundary, kind) in column.creases for column in columns]):
        return "crease"
    height = columns[0].height(boundary)
    if not all([column.height(boundary) == height for column in columns]):
        return "place"
    return None


def has_runs(card, pull, boundary, ahead, behind):
    """Tell whether in all columns of the pull runs of at least so many steps end and begin at a boundary."""
    return all([
        run_around(column.word, boundary, -1) >= ahead and run_around(column.word, boundary, 1) >= behind
        for column in pulled_columns(card, pull)
    ])


def has_mark(card, pull):
    """Tell whether the card has a mark between columns of the pull at one of its steps."""
    first = pull.boundary - pull.downs
    behind = pull.boundary + pull.outs
    return any([pull.first <= c < pull.last and first <= t < behind for c, t in card.marks])


def pull_fault(card, pull):
    """Return None if the pull is let on the card, else what is wrong with it."""
    if not isinstance(pull, Pull):
        return "pull"
    if pull.last >= card.width:
        return "columns"
    fault = crease_fault(card, pull, pull.boundary, "hollow")
    if fault is not None:
        return fault
    if not has_runs(card, pull, pull.boundary, pull.downs, pull.outs):
        return "run"
    if pull.downs + pull.outs > card.columns[pull.first].height(pull.boundary):
        return "boards"
    return "mark" if has_mark(card, pull) else None


def push_fault(card, pull):
    """Return None if the pull can be pushed back on the card, else what is wrong with it."""
    if not isinstance(pull, Pull):
        return "pull"
    if pull.last >= card.width:
        return "columns"
    ridge = pull.boundary - pull.downs + pull.outs
    fault = crease_fault(card, pull, ridge, "ridge")
    if fault is not None:
        return fault
    if not has_runs(card, pull, ridge, pull.outs, pull.downs):
        return "run"
    return "mark" if has_mark(card, pull) else None


def check_no_fault(fault):
    """Raise BadPull if there is a fault."""
    if fault is not None:
        raise BadPull(fault)


def with_made_words(card, pull, make):
    """Return the card with what `make` makes of their words in the columns of the pull."""
    columns = list(card.columns)
    for c in range(pull.first, pull.last + 1):
        columns[c] = Column(make(card.words[c], pull.boundary, pull.downs, pull.outs))
    return Card(columns, card.marks)


def pull_card(card, pull):
    """Return the card after a pull."""
    check_no_fault(pull_fault(card, pull))
    return with_made_words(card, pull, pulled_word)


def push_card(card, pull):
    """Return the card of which the pull makes this one."""
    check_no_fault(push_fault(card, pull))
    return with_made_words(card, pull, pushed_word)


def pull_box(card, pull):
    """Return the box that a pull adds to the card."""
    check_no_fault(pull_fault(card, pull))
    x, y = card.columns[pull.first].place(pull.boundary)
    return Box(pull.first, pull.last, x, y, pull.outs, pull.downs)


def crease_numbers(card, kind):
    """Return (first, last, boundary, ahead, behind) for some columns and each crease of this kind of the
    first one, with the lengths of its runs."""
    return [
        (first, last, boundary, run_around(card.words[first], boundary, -1), run_around(card.words[first], boundary, 1))
        for first in range(card.width)
        for last in range(first, card.width)
        for boundary, told in card.columns[first].creases if told == kind
    ]


def let_pulls(card):
    """Yield all pulls that are let on the card, ascending."""
    for first, last, boundary, ahead, behind in crease_numbers(card, "hollow"):
        for downs in range(1, ahead + 1):
            for outs in range(1, behind + 1):
                pull = Pull(first, last, boundary, downs=downs, outs=outs)
                if pull_fault(card, pull) is None:
                    yield pull


def let_pushes(card):
    """Yield all pulls that can be pushed back on the card, ascending."""
    numbers = sorted([
        (first, last, ridge + downs - outs, downs, outs)
        for first, last, ridge, ahead, behind in crease_numbers(card, "ridge")
        for downs in range(1, behind + 1)
        for outs in range(1, ahead + 1)
    ])
    for first, last, boundary, downs, outs in numbers:
        pull = Pull(first, last, boundary, downs=downs, outs=outs)
        if push_fault(card, pull) is None:
            yield pull
