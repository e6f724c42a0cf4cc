"""Lookalikes: all cards that look like a card with a print from the slopes between, numbered."""

from slitstairs.allcolumns import all_columns
from slitstairs.between import choice_number, chosen_card, how_many_choices
from slitstairs.columns import is_whole
from slitstairs.errors import NoSuch
from slitstairs.views import are_level, change_boundaries, check_cards, check_fits


def alike_words(columns, column, inks):
    """Return the words of those of some columns that look like a column with these inks."""
    boundaries = change_boundaries(inks)
    return tuple([other.word for other in columns if are_level(other, column, boundaries)])


class Lookalikes:
    """The cards without marks that look like a card with a print from the slopes between."""

    def __init__(self, card, printed):
        check_fits(card, printed)
        self.card = card
        self.printed = printed
        columns = list(all_columns(card.size))
        # A slope between shows all cells, so each column is alike or not by itself.
        self.lots = tuple([
            alike_words(columns, column, inks)
            for column, inks in zip(card.columns, printed.inks)
        ])
        self.total = how_many_choices(self.lots)

    @property
    def alike_many(self):
        """How many lookalikes there are."""
        return self.total

    def lookalike_at(self, number):
        """Return the lookalike that has this number."""
        if not is_whole(number, 0, self.total - 1):
            raise NoSuch(number)
        return chosen_card(self.lots, number)

    def number_of(self, card):
        """Return the number of a card, its marks disregarded, or None if it is no lookalike."""
        check_cards(self.card, card)
        if not all([word in lot for word, lot in zip(card.words, self.lots)]):
            return None
        return choice_number(self.lots, card.words)

    def each_lookalike(self):
        """Yield all lookalikes in the order of words."""
        for number in range(self.total):
            yield chosen_card(self.lots, number)
