"""Covers: the fewest nests into which some cards can be sorted."""

from slitstairs.columns import is_whole
from slitstairs.errors import BadNest
from slitstairs.nests import check_some, first_less, height_rows

MOST_CARDS = 8


class NestCover:
    """Nests that hold each card once, and as many cards of which no two lie behind one another."""

    def __init__(self, nests, crossing):
        self.nests = nests
        self.crossing = crossing


def check_cards(cards):
    """Raise BadNest if these are not 1 to 8 cards that can be compared."""
    if len(cards) > MOST_CARDS:
        raise BadNest(MOST_CARDS, "many")
    check_some(cards)


def behind_table(cards):
    """Return for each card, for each card, whether the first one lies behind the second one."""
    tables = [height_rows(card) for card in cards]
    return [[first_less(one, other) is None for other in tables] for one in tables]


def later_lists(behind):
    """Return for each card the cards that may stand before it in a nest; equal cards by their index."""
    many = len(behind)
    return [
        [
            other for other in range(many)
            if behind[one][other] and (one < other or not behind[other][one])
        ]
        for one in range(many)
    ]


def find_next(one, later, ahead_of, tried):
    """Give card `one` a next card in its nest, moving others if need be; tell whether there is one."""
    for other in later[one]:
        if other not in tried:
            tried.append(other)
            if other not in ahead_of or find_next(ahead_of[other], later, ahead_of, tried):
                ahead_of[other] = one
                return True
    return False


def cards_ahead(later):
    """Return for as many cards as possible the card just ahead of it in its nest."""
    ahead_of = {}
    for one in range(len(later)):
        find_next(one, later, ahead_of, [])
    return ahead_of


def nests_by(next_of, many):
    """Return the nests in which each card is followed by the card that `next_of` tells."""
    led_to = sorted(list(next_of.values()))
    nests = []
    for first in range(many):
        if first not in led_to:
            nest = [first]
            while nest[-1] in next_of:
                nest.append(next_of[nest[-1]])
            nests.append(tuple(nest))
    return tuple(nests)


def crossing_by(later, next_of, ahead_of):
    """Return a card out of each nest so that no two of them lie behind one another."""
    # By Koenig's theorem: go from the cards without a next one to any later card,
    # and from there to the card ahead of it. A card that is reached as one that
    # leads on, but not as one that is led to, has no other such card before it.
    leading = [one for one in range(len(later)) if one not in next_of]
    led_to = []
    waiting = list(leading)
    while waiting:
        one = waiting.pop()
        for other in later[one]:
            if other not in led_to:
                led_to.append(other)
                leading.append(ahead_of[other])
                waiting.append(ahead_of[other])
    return tuple([one for one in range(len(later)) if one in leading and one not in led_to])


def fewest_nests(*cards):
    """Return the fewest nests that hold each card once, with a crossing that shows this."""
    check_cards(cards)
    later = later_lists(behind_table(cards))
    ahead_of = cards_ahead(later)
    next_of = {one: other for other, one in ahead_of.items()}
    return NestCover(nests_by(next_of, len(cards)), crossing_by(later, next_of, ahead_of))


def is_crossing(crossing, behind):
    """Tell whether these indices ascend and no two of their cards lie behind one another."""
    for place, other in enumerate(crossing):
        for one in crossing[:place]:
            if one >= other or behind[one][other] or behind[other][one]:
                return False
    return True


def cover_fault(cards, cover):
    """Return None if the cover is one of the cards with the fewest nests, else what is wrong with it."""
    check_cards(cards)
    held = [thing for nest in cover.nests for thing in nest]
    if not all([is_whole(thing, 0, len(cards) - 1) for thing in [*held, *cover.crossing]]):
        return "index"
    if sorted(held) != list(range(len(cards))):
        return "nests"
    behind = behind_table(cards)
    for nest in cover.nests:
        if not all([behind[nest[k]][nest[k + 1]] for k in range(len(nest) - 1)]):
            return "order"
    if len(cover.crossing) != len(cover.nests) or not is_crossing(cover.crossing, behind):
        return "crossing"
    return None
