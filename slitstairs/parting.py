"""Parting: prints that tell cards apart, by ink changes where their heights differ."""

from slitstairs.cards import Card
from slitstairs.columns import is_sequence
from slitstairs.errors import BadView
from slitstairs.prints import Print

MOST_PARTED = 4


class Twins:
    """Two cards that look alike with a print: their heights differ at this pair and nowhere else."""

    def __init__(self, column, boundary, one, other):
        self.column = column
        self.boundary = boundary
        self.one = one
        self.other = other


def twin_words(size, boundary):
    """Return two words of a size whose heights differ at a boundary from 2 to 2 * size - 2 and nowhere else."""
    # One step ahead of the boundary they are at height 1 or 2, whichever can be reached there.
    downs = (boundary + boundary % 2) // 2
    outs = boundary - 1 - downs
    ahead = "d" * downs + "o" * outs
    behind = "d" * (size - downs - 1) + "o" * (size - outs - 1)
    return (ahead + "do" + behind, ahead + "od" + behind)


def twins_at(printed, column, boundary):
    """Return twins of the print's size and width at a pair."""
    cards = []
    for word in twin_words(printed.size, boundary):
        words = ["d" * printed.size + "o" * printed.size] * printed.width
        words[column] = word
        cards.append(Card.of_words(*words))
    return Twins(column, boundary, cards[0], cards[1])


def tells_cards(printed):
    """Return None if the print tells all cards of its size and width apart, else Twins that it does not."""
    for column, inks in enumerate(printed.inks):
        for boundary in range(2, 2 * printed.size - 1):
            if inks[boundary] == inks[boundary - 1]:
                return twins_at(printed, column, boundary)
    return None


def check_parted(cards):
    """Raise BadView if these are not 2 to 4 cards of one size and width with unlike words."""
    if not is_sequence(cards) or not 2 <= len(cards) <= MOST_PARTED:
        raise BadView("cards")
    if not all([isinstance(card, Card) for card in cards]):
        raise BadView("cards")
    if not all([card.size == cards[0].size and card.width == cards[0].width for card in cards]):
        raise BadView("cards")
    if len({card.words for card in cards}) < len(cards):
        raise BadView("equal")


def unlike_mask(cards, column, boundary):
    """Return the number whose bits are the pairs of cards that have unlike heights there."""
    heights = [card.columns[column].height(boundary) for card in cards]
    mask = 0
    bit = 1
    for k, height in enumerate(heights):
        for other in heights[:k]:
            if height != other:
                mask = mask | bit
            bit = bit * 2
    return mask


def first_cover(masks, first, many, left):
    """Return the first row of so many ascending places, from `first` on, whose masks have all bits that are
    left, or None."""
    if many == 0:
        return () if left == 0 else None
    for place in range(first, len(masks)):
        found = first_cover(masks, place + 1, many - 1, left & ~masks[place])
        if found is not None:
            return (place, *found)
    return None


def fewest_changes(cards):
    """Return the fewest pairs (column, boundary) such that every two of the cards differ in height at one of them."""
    check_parted(cards)
    pairs = [
        (column, boundary)
        for column in range(cards[0].width)
        for boundary in range(1, 2 * cards[0].size)
    ]
    masks = [unlike_mask(cards, column, boundary) for column, boundary in pairs]
    every = 0
    for mask in masks:
        every = every | mask
    # Every two of the cards differ somewhere, so fewer pairs than cards are enough: each one more
    # tells some apart that those ahead of it do not.
    many = 1
    places = first_cover(masks, 0, many, every)
    while places is None:
        many += 1
        places = first_cover(masks, 0, many, every)
    return tuple([pairs[place] for place in places])


def parting_print(cards):
    """Return the print, with ink 0 first and greater by 1 at each ink change, whose ink changes are the fewest."""
    changes = fewest_changes(cards)
    rows = []
    for column in range(cards[0].width):
        boundaries = [boundary for told, boundary in changes if told == column]
        rows.append([
            len([boundary for boundary in boundaries if boundary <= t])
            for t in range(2 * cards[0].size)
        ])
    return Print(rows)
