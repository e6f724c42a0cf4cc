"""The granted card with the fewest slit edges that only opens."""

from slitstairs.columns import is_whole
from slitstairs.errors import BadMost, TooManySway
from slitstairs.fewest import words_or_none
from slitstairs.motions import OnlyOpens, Sways, motion_fault, motion_of
from slitstairs.slitorder import cards_by_slits

MOST_AHEAD = 200


class FewestOpening:
    """A card that only opens with its motion, and (card, motion) of all cards ahead of it; or no card."""

    def __init__(self, card, paper, ahead):
        self.card = card
        self.paper = paper
        self.ahead = ahead


def fewest_opening(wish, *, most=200):
    """Return the first card in the order of slits that only opens, with what shows that it is the first."""
    if not is_whole(most, 0, MOST_AHEAD):
        raise BadMost(most)
    words_or_none(wish)
    ahead = []
    for card in cards_by_slits(wish):
        paper = motion_of(card)
        if isinstance(paper, OnlyOpens):
            return FewestOpening(card, paper, tuple(ahead))
        if len(ahead) == most:
            raise TooManySway(most)
        ahead.append((card, paper))
    return FewestOpening(None, None, tuple(ahead))


def first_by_slits(wish, many):
    """Return so many first cards in the order of slits, or all if there are fewer."""
    found = []
    for card in cards_by_slits(wish):
        if len(found) == many:
            return found
        found.append(card)
    return found


def opening_fault(wish, found):
    """Return None if the paper shows that its card is the first that only opens, else what is wrong with it."""
    many = len(found.ahead)
    cards = first_by_slits(wish, many + 1)
    if len(cards) < many or not all([card == told for card, (told, _) in zip(cards, found.ahead)]):
        return "ahead"
    if not all([isinstance(motion, Sways) and motion_fault(card, motion) is None for card, motion in found.ahead]):
        return "sways"
    if len(cards) == many:
        if found.card is not None:
            return "card"
        return None if found.paper is None else "opens"
    if cards[many] != found.card:
        return "card"
    if not isinstance(found.paper, OnlyOpens) or motion_fault(found.card, found.paper) is not None:
        return "opens"
    return None
