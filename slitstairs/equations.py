"""The equations that the rates of a card's panels must keep."""

from slitstairs.panels import floor_panel, panel_table, wall_panel


class Equation:
    """An equation: factors times the rates of panels add up to 0."""

    def __init__(self, name, factors):
        self.name = tuple(name)
        self.factors = tuple([tuple(pair) for pair in factors])

    def factor(self, panel):
        """Return the factor of a panel."""
        for number, factor in self.factors:
            if number == panel:
                return factor
        return 0

    def __call__(self, rates):
        return sum([factor * rates[panel] for panel, factor in self.factors])

    def __eq__(self, other):
        return isinstance(other, Equation) and self.name == other.name and self.factors == other.factors


def letter_cells(word, row, letter, boundary):
    """Return the panels of the cells of a letter ahead of a boundary of a column, one for each cell."""
    return [row[t] for t in range(boundary) if word[t] == letter]


def equation_of(name, added, taken):
    """Return the equation of the rates of some panels, each counted as often as it stands there,
    less those of some others."""
    sums = {panel: 0 for panel in sorted([*added, *taken])}
    for panel in added:
        sums[panel] += 1
    for panel in taken:
        sums[panel] -= 1
    return Equation(name, [(panel, factor) for panel, factor in sums.items() if factor != 0])


def equation_rows(card, letter):
    """Return the equations of the system of a letter."""
    table = panel_table(card)
    found = []
    if letter == "o":
        found.append(equation_of(("floor",), [floor_panel(card)], []))
    else:
        found.append(equation_of(("wall",), [wall_panel(card)], []))
    for c, word in enumerate(card.words):
        found.append(equation_of(("column", c), letter_cells(word, table[c], letter, len(word)), []))
    for c in range(card.width - 1):
        for t in card.joined(c):
            left = letter_cells(card.words[c], table[c], letter, t)
            right = letter_cells(card.words[c + 1], table[c + 1], letter, t)
            found.append(equation_of(("cell", c, t), left, right))
    return tuple(found)
