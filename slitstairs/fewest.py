"""The granted card with the fewest slit edges, with prices that show it."""

from itertools import pairwise

from slitstairs.cards import Card
from slitstairs.columns import Column, common_steps, is_number, is_sequence
from slitstairs.errors import NoWord
from slitstairs.solving import are_numbers
from slitstairs.webs import granted_lots


class Fewest:
    """A card, its slit edges, and for each granted word of each column the fewest slit edges up to it."""

    def __init__(self, card, slits, prices):
        self.card = card
        self.slits = slits
        self.prices = prices

    def __eq__(self, other):
        return (
            isinstance(other, Fewest)
            and self.card == other.card
            and self.slits == other.slits
            and self.prices == other.prices
        )


def words_or_none(wish):
    """Return the granted words of each column, or raise NoWord for the first column without one."""
    lots = granted_lots(wish)
    for c, lot in enumerate(lots):
        if not lot:
            raise NoWord(c)
    return lots


def slit_table(lots):
    """Return for each two words that stand side by side in some lots how many steps are not common to them."""
    columns = {word: Column(word) for lot in lots for word in lot}
    found = {}
    for lot, nexts in pairwise(lots):
        for one in lot:
            for other in nexts:
                if (one, other) not in found:
                    found[(one, other)] = len(one) - len(common_steps(columns[one], columns[other]))
    return found


def prices_up_to(lots, slits):
    """Return for each word of each lot the fewest slit edges of words of the lots up to this one that end with it."""
    found = [[0] * len(lots[0])]
    for lot, nexts in pairwise(lots):
        priced = list(zip(lot, found[-1]))
        found.append([min([price + slits[(word, led)] for word, price in priced]) for led in nexts])
    return found


def prices_from(lots, slits):
    """Return for each lot, for each word of it, the fewest slit edges of words from this lot on that begin with it."""
    found = [{word: 0 for word in lots[-1]}]
    for c in range(len(lots) - 2, -1, -1):
        priced = list(found[-1].items())
        found.append({word: min([price + slits[(word, led)] for led, price in priced]) for word in lots[c]})
    return found[::-1]


def first_cheapest(lots, slits):
    """Return the first row of words, one out of each lot, with the fewest slit edges, and how many it has."""
    prices = prices_from(lots, slits)
    least = min(list(prices[0].values()))
    words = [[word for word in lots[0] if prices[0][word] == least][0]]
    for c in range(1, len(lots)):
        ahead = words[-1]
        left = prices[c - 1][ahead]
        words.append([word for word in lots[c] if slits[(ahead, word)] + prices[c][word] == left][0])
    return words, least


def fewest_slits(wish):
    """Return the first granted card with the fewest slit edges, and prices that show that none has fewer."""
    lots = words_or_none(wish)
    slits = slit_table(lots)
    words, least = first_cheapest(lots, slits)
    prices = prices_up_to(lots, slits)
    return Fewest(Card.of_words(*words), least, tuple([tuple(row) for row in prices]))


def are_prices(thing, lots):
    """Tell whether `thing` has a whole number for each word of each lot."""
    if not is_sequence(thing) or len(thing) != len(lots):
        return False
    return all([are_numbers(row, len(lot)) for row, lot in zip(thing, lots)])


def has_dear_move(lots, slits, prices):
    """Tell whether some word costs more than a word ahead of it and the slit edges between the two."""
    for c in range(len(lots) - 1):
        priced = list(zip(lots[c], prices[c]))
        for led, price in zip(lots[c + 1], prices[c + 1]):
            if price > min([ahead + slits[(word, led)] for word, ahead in priced]):
                return True
    return False


def fewest_fault(wish, found):
    """Return None if the paper shows that its card has the fewest slit edges, else what is wrong with it."""
    card = found.card
    if card not in wish or card.marks:
        return "card"
    if not is_number(found.slits) or found.slits != card.all_slit_edges():
        return "slits"
    lots = granted_lots(wish)
    if not are_prices(found.prices, lots):
        return "prices"
    if not all([price <= 0 for price in found.prices[0]]):
        return "start"
    if has_dear_move(lots, slit_table(lots), found.prices):
        return "move"
    return "end" if min(found.prices[-1]) < found.slits else None
