"""Prints: an ink for each cell of a card's sheet."""

from slitstairs.allcolumns import check_size
from slitstairs.cards import MOST_WIDTH
from slitstairs.columns import MOST_SIZE, is_number, is_sequence, is_whole
from slitstairs.errors import BadPlace, BadPrint


def is_ink_row(thing):
    """Tell whether `thing` is a sequence as long as the row of a print."""
    return is_sequence(thing) and 2 <= len(thing) <= 2 * MOST_SIZE and len(thing) % 2 == 0


def check_inks(inks):
    """Raise BadPrint if `inks` are not those of a print."""
    if not is_sequence(inks) or not 1 <= len(inks) <= MOST_WIDTH:
        raise BadPrint(0, "rows")
    for index, row in enumerate(inks):
        if not is_ink_row(row):
            raise BadPrint(index, "row")
        if len(row) != len(inks[0]):
            raise BadPrint(index, "size")
        if not all([is_number(ink) for ink in row]):
            raise BadPrint(index, "ink")


class Print:
    """A print, told by the inks of each column, step by step."""

    def __init__(self, inks):
        check_inks(inks)
        self.inks = tuple([tuple(row) for row in inks])
        self.size = len(self.inks[0]) // 2
        self.width = len(self.inks)

    @classmethod
    def plain(cls, size, width, ink=0):
        """Return the print of one ink everywhere."""
        check_size(size)
        if not is_whole(width, 1, MOST_WIDTH):
            raise BadPrint(0, "rows")
        return cls([[ink] * (2 * size)] * width)

    @classmethod
    def alone(cls, size, width, column, step):
        """Return the print with ink 1 at one cell and ink 0 at all others."""
        return cls.plain(size, width).with_ink(column, step, 1)

    def mirrored(self):
        """Return the print with each row from its end."""
        return Print([row[::-1] for row in self.inks])

    def turned(self):
        """Return the print with the rows from the last one."""
        return Print(self.inks[::-1])

    def with_ink(self, column, step, ink):
        """Return the print with another ink at one cell."""
        if not is_whole(column, 0, self.width - 1) or not is_whole(step, 0, 2 * self.size - 1):
            raise BadPlace(column, step)
        # A wrong ink is refused with the new rows, by the index of its column.
        rows = [list(row) for row in self.inks]
        rows[column][step] = ink
        return Print(rows)

    def __eq__(self, other):
        return isinstance(other, Print) and self.inks == other.inks

    def __len__(self):
        return len(self.inks)

    def __iter__(self):
        return iter(self.inks)
