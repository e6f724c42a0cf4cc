"""The panels of a card: runs of neighbouring columns that hang together."""

from slitstairs.columns import is_whole
from slitstairs.errors import BadPlace, NoPanel


class Panel:
    """A panel: its number, its letter, its cells, its plane and the columns in which it has cells."""

    def __init__(self, number, letter, cells, plane, columns):
        self.number = number
        self.letter = letter
        self.cells = cells
        self.plane = plane
        self.columns = columns

    def __eq__(self, other):
        return (
            isinstance(other, Panel)
            and self.number == other.number
            and self.letter == other.letter
            and self.cells == other.cells
            and self.plane == other.plane
            and self.columns == other.columns
        )


def run_leads(card):
    """Return for each cell, counted through the columns, the first cell of its run."""
    leads = []
    for column in card:
        top = len(leads)
        for _, first, many in column.runs:
            leads.extend([top + first] * many)
    return leads


def first_cell(leads, cell):
    """Return the first cell that is reached from a cell by the leads."""
    while leads[cell] != cell:
        cell = leads[cell]
    return cell


def panel_firsts(card):
    """Return for each cell, counted through the columns, the first cell of its panel."""
    leads = run_leads(card)
    steps = 2 * card.size
    for c in range(card.width - 1):
        for t in card.joined(c):
            left = first_cell(leads, c * steps + t)
            right = first_cell(leads, (c + 1) * steps + t)
            # The lesser one leads, so that each panel ends up led by its first cell.
            leads[max(left, right)] = min(left, right)
    return [first_cell(leads, cell) for cell in range(len(leads))]


def panel_table(card):
    """Return for each column the numbers of the panels of its cells."""
    numbers = {}
    cells = []
    for first in panel_firsts(card):
        if first not in numbers:
            numbers[first] = len(numbers)
        cells.append(numbers[first])
    steps = 2 * card.size
    return tuple([tuple(cells[c * steps:(c + 1) * steps]) for c in range(card.width)])


def how_many_panels(table):
    """Return how many panels a card with this table has."""
    return 1 + max([max(row) for row in table])


def panel_of_cells(card, number, cells):
    """Return the panel that has this number and these cells, in ascending order."""
    c, t = cells[0]
    letter = card.words[c][t]
    x, y = card.columns[c].place(t)
    columns = sorted({column for column, _ in cells})
    return Panel(number, letter, tuple(cells), x if letter == "d" else y, tuple(columns))


def panels_of(card):
    """Return the panels of the card in the order of their numbers."""
    table = panel_table(card)
    lots = [[] for _ in range(how_many_panels(table))]
    for c, row in enumerate(table):
        for t, number in enumerate(row):
            lots[number].append((c, t))
    return tuple([panel_of_cells(card, number, cells) for number, cells in enumerate(lots)])


def panel_of(card, c, t):
    """Return the number of the panel of cell t of column c."""
    if not is_whole(c, 0, card.width - 1) or not is_whole(t, 0, 2 * card.size - 1):
        raise BadPlace(c, t)
    return panel_table(card)[c][t]


def wall_panel(card):
    """Return the number of the wall, which is 0 because the wall has the first cell of all."""
    return 0


def floor_panel(card):
    """Return the number of the floor."""
    return panel_table(card)[0][-1]


def letter_panels(card, letter):
    """Return the numbers of the panels of a letter."""
    return tuple([panel.number for panel in panels_of(card) if panel.letter == letter])


def crease_rows(card):
    """Return (c, t, kind, ahead, behind) for each crease, with the panels ahead of it and behind it."""
    table = panel_table(card)
    return tuple([
        (c, t, kind, table[c][t - 1], table[c][t])
        for c, column in enumerate(card)
        for t, kind in column.creases
    ])


def hinges(card, ahead, behind):
    """Return (c, t) for each crease between the panel `ahead` and the panel `behind`."""
    most = how_many_panels(panel_table(card)) - 1
    for number in (ahead, behind):
        if not is_whole(number, 0, most):
            raise NoPanel(number)
    return tuple([(row[0], row[1]) for row in crease_rows(card) if row[3] == ahead and row[4] == behind])


def hinge_pairs(card):
    """Return the pairs (ahead, behind) of panels between which there is a crease."""
    return tuple(sorted({(row[3], row[4]) for row in crease_rows(card)}))
