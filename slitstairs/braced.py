"""Braced pulls: those after which no freedom of the card is greater."""

from slitstairs.errors import BadTable, NotBraced
from slitstairs.motions import Sways
from slitstairs.panels import floor_panel, how_many_panels, panel_table, wall_panel
from slitstairs.pulls import has_runs, let_pulls, pull_card
from slitstairs.resting import MOST_TABLE, next_numbers, with_number


class BracedOrder:
    """The least let order in which each pull is braced at its turn."""

    def __init__(self, order):
        self.order = order


class NoBracedOrder:
    """The result if there is no such order: all lots that braced pulls make, one by one."""

    def __init__(self, lots):
        self.lots = lots


def is_changed(pull, c, t):
    """Tell whether a pull changes cell t of column c."""
    return pull.first <= c <= pull.last and pull.boundary - pull.downs <= t < pull.boundary + pull.outs


def kept_cells(rows, pull, panel):
    """Return the cells (c, t) of a panel that the pull does not change."""
    return [
        (c, t)
        for c, row in enumerate(rows)
        for t, number in enumerate(row)
        if number == panel and not is_changed(pull, c, t)
    ]


def is_hinged_outside(rows, pull, ahead, behind):
    """Tell whether some other column has at the boundary a cell of one panel ahead and of the other behind."""
    return any([
        row[pull.boundary - 1] == ahead and row[pull.boundary] == behind
        for c, row in enumerate(rows) if not pull.first <= c <= pull.last
    ])


def let_brace_fault(card, rows, after_rows, pull):
    """Return None if a let pull is braced, else what is wrong, from the panels of all cells ahead and after."""
    if not has_runs(card, pull, pull.boundary, pull.downs + 1, pull.outs + 1):
        return "run"
    ahead = rows[pull.first][pull.boundary - 1]
    behind = rows[pull.first][pull.boundary]
    for panel, what in ((ahead, "ahead"), (behind, "behind")):
        if len({after_rows[c][t] for c, t in kept_cells(rows, pull, panel)}) > 1:
            return what
    if ahead == wall_panel(card) and behind == floor_panel(card):
        return None
    return None if is_hinged_outside(rows, pull, ahead, behind) else "hinge"


def brace_fault(card, pull):
    """Return None if a let pull is braced, else what is wrong with it."""
    after = pull_card(card, pull)
    return let_brace_fault(card, panel_table(card), panel_table(after), pull)


def braced_pulls(card):
    """Yield all braced pulls, ascending."""
    rows = panel_table(card)
    for pull in let_pulls(card):
        if let_brace_fault(card, rows, panel_table(pull_card(card, pull)), pull) is None:
            yield pull


def led_back(card, pull, motion):
    """Return the motion of the card from which a motion of the card after a braced pull comes."""
    fault = brace_fault(card, pull)
    if fault is not None:
        raise NotBraced(fault)
    rows = panel_table(card)
    after_rows = panel_table(pull_card(card, pull))
    rates = []
    for panel in range(how_many_panels(rows)):
        c, t = kept_cells(rows, pull, panel)[0]
        rates.append(motion.rates[after_rows[c][t]] if card.words[c][t] == motion.letter else 0)
    turning = [rate for rate in rates if rate != 0]
    sign = -1 if turning[0] < 0 else 1
    return Sways(motion.letter, tuple([sign * rate for rate in rates]))


class BracedLots:
    """The lots that braced pulls of a studio make from the start one by one, and where they lead."""

    def __init__(self, studio):
        self.pulls = studio.pulls
        self.rest_rows = studio.table
        self.cards = {(): studio.start}
        self.panel_rows = {(): panel_table(studio.start)}
        # For each lot that is made, the numbers of the pulls that are braced behind it.
        self.nexts = {}
        layer = [()]
        while layer:
            for lot in layer:
                self.nexts[lot] = self.braced_numbers(lot)
            layer = sorted({with_number(lot, number) for lot in layer for number in self.nexts[lot]})

    def braced_numbers(self, lot):
        """Return the numbers of the pulls, ascending, that may come behind a lot and are braced there."""
        return [number for number in next_numbers(self.rest_rows, lot) if self.is_braced(lot, number)]

    def is_braced(self, lot, number):
        """Tell whether a pull is braced behind a lot."""
        led = with_number(lot, number)
        if led not in self.cards:
            self.cards[led] = pull_card(self.cards[lot], self.pulls[number])
            self.panel_rows[led] = panel_table(self.cards[led])
        rows = self.panel_rows[lot]
        return let_brace_fault(self.cards[lot], rows, self.panel_rows[led], self.pulls[number]) is None

    def least_order(self):
        """Return the least order in which each pull is braced at its turn, or None."""
        every = tuple(range(len(self.pulls)))
        leading = {every: True}
        for lot in sorted(self.nexts, key=len, reverse=True):
            if any([with_number(lot, number) in leading for number in self.nexts[lot]]):
                leading[lot] = True
        if () not in leading:
            return None
        order = []
        lot = ()
        while lot != every:
            order.append([number for number in self.nexts[lot] if with_number(lot, number) in leading][0])
            lot = with_number(lot, order[-1])
        return tuple(order)


def braced_order(studio):
    """Return the least let order in which each pull of a studio is braced at its turn, or the lots that are made."""
    if len(studio) > MOST_TABLE:
        raise BadTable(MOST_TABLE, "many")
    lots = BracedLots(studio)
    order = lots.least_order()
    if order is not None:
        return BracedOrder(order)
    return NoBracedOrder(tuple(sorted(lots.nexts, key=lambda lot: (len(lot), lot))))
