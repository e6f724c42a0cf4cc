"""Nests: cards without marks that stand before one another on one page."""

from slitstairs.cards import Card
from slitstairs.columns import Column, common_steps
from slitstairs.errors import BadNest


class Nested:
    """The result if of any two cards one lies behind the other: the indices from the back to the front."""

    def __init__(self, order):
        self.order = order


class Crossing:
    """The result if neither of two cards lies behind the other, with the first place where `one` has
    the greater height (`behind`) and the first one where it has the lesser height (`before`)."""

    def __init__(self, one, other, behind, before):
        self.one = one
        self.other = other
        self.behind = behind
        self.before = before


def check_nest(cards):
    """Raise BadNest if the cards cannot be compared."""
    for index, card in enumerate(cards):
        if not isinstance(card, Card):
            raise BadNest(index, "card")
        if card.marks:
            raise BadNest(index, "marks")
        if card.size != cards[0].size:
            raise BadNest(index, "size")
        if card.width != cards[0].width:
            raise BadNest(index, "width")


def check_some(cards):
    """Raise BadNest if there is no card or if the cards cannot be compared."""
    if not cards:
        raise BadNest(0, "empty")
    check_nest(cards)


def height_rows(card):
    """Return the heights of each column of a card."""
    return [column.heights for column in card]


def first_less(rows, others):
    """Return the first (column, boundary) at which `rows` has the lesser height, or None."""
    for c, row in enumerate(rows):
        for t, height in enumerate(row):
            if height < others[c][t]:
                return (c, t)
    return None


def behind_fault(one, other):
    """Return None if `one` lies behind `other`, else the first (column, boundary) where it does not."""
    check_nest((one, other))
    return first_less(height_rows(one), height_rows(other))


def is_behind(one, other):
    """Tell whether `one` lies behind `other`."""
    return behind_fault(one, other) is None


def shared_cells(one, other):
    """Return the cells (column, step) that both cards have in common."""
    check_nest((one, other))
    return tuple([
        (c, t)
        for c in range(one.width)
        for t in common_steps(one.columns[c], other.columns[c])
    ])


def height_lots(cards):
    """Return for each column, for each boundary, the heights that the cards have there."""
    tables = [height_rows(card) for card in cards]
    steps = 2 * cards[0].size
    return [
        [[table[c][t] for table in tables] for t in range(steps + 1)]
        for c in range(cards[0].width)
    ]


def behind_all(*cards):
    """Return the foremost card that lies behind all of the cards."""
    check_some(cards)
    return Card([Column.of_heights([max(lot) for lot in lots]) for lots in height_lots(cards)])


def before_all(*cards):
    """Return the hindmost card that lies before all of the cards."""
    check_some(cards)
    return Card([Column.of_heights([min(lot) for lot in lots]) for lots in height_lots(cards)])


def first_crossing(tables):
    """Return the Crossing of the first two cards of which neither lies behind the other, or None."""
    for one in range(len(tables)):
        for other in range(one + 1, len(tables)):
            behind = first_less(tables[other], tables[one])
            before = first_less(tables[one], tables[other])
            if behind is not None and before is not None:
                return Crossing(one, other, behind, before)
    return None


def nest_of(*cards):
    """Return Nested if of any two of the cards one lies behind the other, else a Crossing."""
    check_some(cards)
    tables = [height_rows(card) for card in cards]
    crossing = first_crossing(tables)
    if crossing is not None:
        return crossing
    # Of two unlike cards in a nest, the one that lies behind has the greater sum of heights.
    ranks = sorted([
        (-sum([sum(row) for row in table]), index)
        for index, table in enumerate(tables)
    ])
    return Nested(tuple([index for _, index in ranks]))
