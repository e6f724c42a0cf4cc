"""Shut books of pages: how thick they are, and which cards to turn so that they bulge least."""

from slitstairs.bookmends import lots_of
from slitstairs.cards import Card
from slitstairs.columns import is_number, is_sequence, is_whole
from slitstairs.errors import BadPages
from slitstairs.lots import least_lots
from slitstairs.shut import first_greatest, layer_counts, layer_steps, thickness

MOST_PAGES = 6


def check_pages(cards):
    """Raise BadPages if these are not the cards of a book of pages."""
    if not cards:
        raise BadPages(0, "cards")
    if len(cards) > MOST_PAGES:
        raise BadPages(MOST_PAGES, "cards")
    for index, card in enumerate(cards):
        if not isinstance(card, Card):
            raise BadPages(index, "card")
    for index, card in enumerate(cards):
        if card.size != cards[0].size:
            raise BadPages(index, "size")
    for index, card in enumerate(cards):
        if card.width != cards[0].width:
            raise BadPages(index, "width")


def are_indices(thing, many):
    """Tell whether `thing` is a sequence of whole numbers below `many`, none of them twice."""
    if not is_sequence(thing) or not all([is_whole(index, 0, many - 1) for index in thing]):
        return False
    return len(set(thing)) == len(thing)


class Pages:
    """A shut book: cards of one size and one width, one on each page."""

    def __init__(self, *cards):
        check_pages(cards)
        self.cards = cards
        self.size = cards[0].size
        self.width = cards[0].width

    def thickness_at(self, c, k):
        """Return how many cells of all cards lie in layer k of column c."""
        return sum([thickness(card, c, k) for card in self.cards])

    def layers_at(self, c, k):
        """Return (page, step) for each cell in layer k of column c, page by page."""
        return tuple([(page, t) for page, card in enumerate(self.cards) for t in layer_steps(card, c, k)])

    def bulge(self):
        """Return (number, c, k) of the greatest thickness, at the first column, then the first layer that has it."""
        rows = [[0] * self.size for _ in range(self.width)]
        for card in self.cards:
            for c, column in enumerate(card.columns):
                rows[c] = [ahead + number for ahead, number in zip(rows[c], layer_counts(column))]
        return first_greatest(rows)

    def in_order(self, order):
        """Return the book of the same cards in another order."""
        if not are_indices(order, len(self.cards)) or len(order) != len(self.cards):
            raise BadPages(0, "order")
        cards = [self.cards[index] for index in order]
        return Pages(*cards)

    def with_turned(self, lot):
        """Return the book in which the cards with these indices are turned."""
        if not are_indices(lot, len(self.cards)):
            raise BadPages(0, "lot")
        cards = [card.turned() if index in lot else card for index, card in enumerate(self.cards)]
        return Pages(*cards)

    def __len__(self):
        return len(self.cards)

    def __iter__(self):
        return iter(self.cards)

    def __eq__(self, other):
        return isinstance(other, Pages) and self.cards == other.cards


class Bulge:
    """The least bulge of a book whose cards may be turned, the least lots to turn for it, and all lots' bulges."""

    def __init__(self, least, lots, worst):
        self.least = least
        self.lots = lots
        self.worst = worst

    def __eq__(self, other):
        return (
            isinstance(other, Bulge)
            and self.least == other.least
            and self.lots == other.lots
            and self.worst == other.worst
        )


def turned_bulge(pages, lot):
    """Return (lot, number, c, k): a lot of cards to turn, and the bulge of the book behind it."""
    number, c, k = pages.with_turned(lot).bulge()
    return (lot, number, c, k)


def least_bulge(pages):
    """Return the least bulge that the book has with any lot of its cards turned."""
    worst = [turned_bulge(pages, lot) for lot in lots_of(len(pages))]
    least = min([row[1] for row in worst])
    return Bulge(least, least_lots([row[0] for row in worst if row[1] == least]), tuple(worst))


def is_told(thing, told):
    """Tell whether `thing` is what is told: a whole number, or a tuple of such things."""
    if not isinstance(told, tuple):
        return is_number(thing) and thing == told
    if not isinstance(thing, tuple) or len(thing) != len(told):
        return False
    return all([is_told(part, other) for part, other in zip(thing, told)])


def bulge_fault(pages, least, lots, worst):
    """Return None if these are the attributes of the book's least bulge, else what is wrong with them."""
    told = least_bulge(pages)
    if not is_told(worst, told.worst):
        return "worst"
    if not is_told(least, told.least):
        return "least"
    return None if is_told(lots, told.lots) else "lots"
