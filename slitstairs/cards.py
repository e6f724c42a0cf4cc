"""Cards: columns of one size side by side, with marks between them."""

from slitstairs.columns import Column, common_steps, is_sequence, is_whole
from slitstairs.errors import BadCard, BadPlace, NoColumn

MOST_WIDTH = 12


def check_columns(columns):
    """Raise BadCard if `columns` are not those of a card."""
    if not is_sequence(columns) or not 1 <= len(columns) <= MOST_WIDTH:
        raise BadCard(0, "columns")
    for index, column in enumerate(columns):
        if not isinstance(column, Column):
            raise BadCard(index, "column")
    for index, column in enumerate(columns):
        if column.size != columns[0].size:
            raise BadCard(index, "size")


def mark_of(thing, size, width):
    """Return `thing` as the pair of a mark, or None if a card of this size and width has no such mark."""
    if not is_sequence(thing) or len(thing) != 2:
        return None
    c, t = thing
    if is_whole(c, 0, width - 2) and is_whole(t, 1, 2 * size - 2):
        return (c, t)
    return None


def new_marks(marks, size, width, taken):
    """Return the pairs of `marks`, or raise BadCard if one may not be added to those taken."""
    if not is_sequence(marks):
        raise BadCard(0, "marks")
    found = []
    for index, thing in enumerate(marks):
        mark = mark_of(thing, size, width)
        if mark is None:
            raise BadCard(index, "mark")
        if mark in taken or mark in found:
            raise BadCard(index, "double")
        found.append(mark)
    return found


def old_marks(marks, card):
    """Return the pairs of `marks`, or raise BadCard if they are not marks of the card, each once."""
    if not is_sequence(marks):
        raise BadCard(0, "marks")
    found = []
    for index, thing in enumerate(marks):
        mark = mark_of(thing, card.size, card.width)
        if mark is None or mark not in card.marks:
            raise BadCard(index, "mark")
        if mark in found:
            raise BadCard(index, "double")
        found.append(mark)
    return found


class Card:
    """A card. A mark (c, t) slits the columns c and c + 1 along cell t even if it is common."""

    def __init__(self, columns, marks=()):
        check_columns(columns)
        self.columns = tuple(columns)
        self.size = columns[0].size
        self.width = len(columns)
        self.words = tuple([column.word for column in columns])
        self.marks = tuple(sorted(new_marks(marks, self.size, self.width, ())))

    @classmethod
    def of_words(cls, *words, marks=()):
        """Return the card of the columns with these words."""
        columns = [Column(word) for word in words]
        return cls(columns, marks)

    def common(self, c):
        """Return the steps at which the columns c and c + 1 have a common cell."""
        if not is_whole(c, 0, self.width - 2):
            raise NoColumn(c)
        return common_steps(self.columns[c], self.columns[c + 1])

    def joined(self, c):
        """Return the common steps of the columns c and c + 1 that are not marked."""
        return tuple([t for t in self.common(c) if (c, t) not in self.marks])

    def counting(self, c):
        """Return the common steps of the columns c and c + 1 that are marked."""
        return tuple([t for t in self.common(c) if (c, t) in self.marks])

    def slit_edges(self, c):
        """Return how many steps of the columns c and c + 1 are not joined."""
        return 2 * self.size - len(self.joined(c))

    def all_slit_edges(self):
        """Return how many steps of neighbouring columns are not joined in all."""
        return sum([self.slit_edges(c) for c in range(self.width - 1)])

    def is_joined(self, c, t):
        """Tell whether the columns c and c + 1 are joined at step t."""
        if not is_whole(c, 0, self.width - 2) or not is_whole(t, 0, 2 * self.size - 1):
            raise BadPlace(c, t)
        return t in self.joined(c)

    def mirrored(self):
        """Return the card with wall and floor exchanged."""
        last = 2 * self.size - 1
        columns = [column.mirrored() for column in self.columns]
        return Card(columns, [(c, last - t) for c, t in self.marks])

    def turned(self):
        """Return the card with its columns in reverse order."""
        last = self.width - 2
        return Card(self.columns[::-1], [(last - c, t) for c, t in self.marks])

    def unmarked(self):
        """Return the card without marks."""
        return Card(self.columns)

    def with_marks(self, marks):
        """Return the card with these marks besides its own."""
        added = new_marks(marks, self.size, self.width, self.marks)
        return Card(self.columns, [*self.marks, *added])

    def without_marks(self, marks):
        """Return the card without these marks, which it must have."""
        gone = old_marks(marks, self)
        return Card(self.columns, [mark for mark in self.marks if mark not in gone])

    def part(self, first, last):
        """Return the card of the columns from `first` to `last`, both included."""
        if not is_whole(first, 0, self.width - 1):
            raise NoColumn(first)
        if not is_whole(last, first, self.width - 1):
            raise NoColumn(last)
        marks = [(c - first, t) for c, t in self.marks if first <= c < last]
        return Card(self.columns[first:last + 1], marks)

    def beside(self, other, *, slits=()):
        """Return this card and another one right of it, marked between them at the steps of `slits`."""
        if not isinstance(other, Card):
            raise BadCard(0, "card")
        if self.width + other.width > MOST_WIDTH:
            raise BadCard(0, "columns")
        if other.size != self.size:
            raise BadCard(self.width, "size")
        if not is_sequence(slits):
            raise BadCard(0, "marks")
        pairs = [(self.width - 1, t) for t in slits]
        between = new_marks(pairs, self.size, self.width + other.width, ())
        behind = [(c + self.width, t) for c, t in other.marks]
        return Card(self.columns + other.columns, [*self.marks, *between, *behind])

    def __eq__(self, other):
        return isinstance(other, Card) and self.words == other.words and self.marks == other.marks

    def __len__(self):
        return len(self.columns)

    def __iter__(self):
        return iter(self.columns)
