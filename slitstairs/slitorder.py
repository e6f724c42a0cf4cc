"""The order of slits: granted cards with fewer slit edges come first, those with equally many by their words."""

from slitstairs.cards import Card
from slitstairs.columns import is_whole
from slitstairs.errors import NoSuch, NotGranted
from slitstairs.fewest import slit_table
from slitstairs.webs import granted_lots


def counts_with(word, ahead, slits):
    """Return how many rows of words that begin with a word have each number of slit edges, by this number,
    from the same of the words that may come behind it."""
    rows_by = {}
    for led, counts in ahead.items():
        rows_by.setdefault(slits[(word, led)], []).append(counts)
    found = [0] * (len(word) + max([len(counts) for counts in list(ahead.values())], default=0))
    for between, rows in rows_by.items():
        for k, many in enumerate(summed(rows)):
            found[between + k] = found[between + k] + many
    return found


def summed(rows):
    """Return the sums of the numbers that stand at the same place of rows of one length."""
    return [sum(numbers) for numbers in zip(*rows)]


def counts_from(lots, slits):
    """Return for each lot, for each word of it, how many rows of words, one out of this lot and of each
    one behind it, begin with this word and have each number of slit edges, by this number."""
    found = [{word: [1] for word in lots[-1]}]
    for c in range(len(lots) - 2, -1, -1):
        found.append({word: counts_with(word, found[-1], slits) for word in lots[c]})
    return found[::-1]


class SlitOrder:
    """The granted cards of a wish in the order of slits, counted, but not listed."""

    def __init__(self, wish):
        self.lots = granted_lots(wish)
        self.slits = slit_table(self.lots)
        self.counts = counts_from(self.lots, self.slits)
        # How many cards have each number of slit edges, by this number.
        self.totals = summed(list(self.counts[0].values()))

    def left_behind(self, words, word, left):
        """Return how many of the slit edges that are left are still left behind one more word."""
        return left - self.slits[(words[-1], word)] if words else left

    def ways(self, words, word, left):
        """Return how many cards with so many more slit edges begin with some words and this one."""
        counts = self.counts[len(words)][word]
        behind = self.left_behind(words, word, left)
        return counts[behind] if 0 <= behind < len(counts) else 0

    def longer_rows(self, words, left):
        """Return (words, left) for each word with which these words go on to some card, ascending."""
        return [
            ((*words, word), self.left_behind(words, word, left))
            for word in self.lots[len(words)] if self.ways(words, word, left) > 0
        ]

    def card_of_number(self, number):
        """Return the card that has this number."""
        rest = number
        left = 0
        while rest >= self.totals[left]:
            rest -= self.totals[left]
            left += 1
        words = ()
        for lot in self.lots:
            at = 0
            while rest >= self.ways(words, lot[at], left):
                rest -= self.ways(words, lot[at], left)
                at += 1
            left = self.left_behind(words, lot[at], left)
            words = (*words, lot[at])
        return Card.of_words(*words)

    def number_of_words(self, words):
        """Return the number of the card with these words."""
        left = sum([self.slits[(words[c], words[c + 1])] for c in range(len(words) - 1)])
        number = sum(self.totals[:left])
        for c, word in enumerate(words):
            ahead = words[:c]
            number += sum([self.ways(ahead, other, left) for other in self.lots[c] if other < word])
            left = self.left_behind(ahead, word, left)
        return number


def slit_counts(wish):
    """Return (slit edges, how many granted cards have so many), ascending."""
    return tuple([(slits, many) for slits, many in enumerate(SlitOrder(wish).totals) if many > 0])


def cards_by_slits(wish):
    """Yield all granted cards in the order of slits."""
    order = SlitOrder(wish)
    for slits in range(len(order.totals)):
        waiting = [((), slits)]
        while waiting:
            words, left = waiting.pop()
            if len(words) == wish.width:
                yield Card.of_words(*words)
            else:
                for row in order.longer_rows(words, left)[::-1]:
                    waiting.append(row)


def slit_order_at(wish, number):
    """Return the granted card that has this number in the order of slits."""
    order = SlitOrder(wish)
    if not is_whole(number, 0, sum(order.totals) - 1):
        raise NoSuch(number)
    return order.card_of_number(number)


def slit_order_index(wish, card):
    """Return the number of a granted card in the order of slits, its marks disregarded."""
    if card not in wish:
        raise NotGranted(card)
    return SlitOrder(wish).number_of_words(card.words)
