"""What lies between two cards: squares, cards, and rows of cards from one to the other."""

from itertools import pairwise
from math import comb

from slitstairs.cards import Card
from slitstairs.columns import Column, is_whole
from slitstairs.errors import NoSuch, NotBehind, NotBetween
from slitstairs.nests import behind_fault, check_nest, height_rows


def check_behind(one, other):
    """Raise an error if the cards cannot be compared or `one` does not lie behind `other`."""
    fault = behind_fault(one, other)
    if fault is not None:
        raise NotBehind(fault[0], fault[1])


def column_squares(behind, before, size):
    """Return the squares (x, y) between two columns with these heights."""
    found = []
    for t, height in enumerate(behind):
        for x in range((t - height) // 2, (t - before[t]) // 2):
            found.append((x, x + size - t))
    return sorted(found)


def squares_between(one, other):
    """Return the squares (column, x, y) between two cards."""
    check_behind(one, other)
    others = height_rows(other)
    return tuple([
        (c, x, y)
        for c, row in enumerate(height_rows(one))
        for x, y in column_squares(row, others[c], one.size)
    ])


def column_words(behind, before):
    """Return the words of the columns between two columns with these heights, in order."""
    found = [("", 0)]
    for t in range(1, len(behind)):
        found = [
            (word + letter, height)
            for word, ahead in found
            for letter, height in (("d", ahead + 1), ("o", ahead - 1))
            if before[t] <= height <= behind[t]
        ]
    return [word for word, _ in found]


def word_lots(one, other):
    """Return for each column the words that a card between two cards may have there."""
    check_behind(one, other)
    others = height_rows(other)
    return [column_words(row, others[c]) for c, row in enumerate(height_rows(one))]


def how_many_choices(lots):
    """Return in how many ways one thing can be chosen out of each lot."""
    total = 1
    for lot in lots:
        total *= len(lot)
    return total


def chosen_card(lots, number):
    """Return the card with the words of the choice that has this number, the last lot turning fastest."""
    words = []
    rest = number
    for lot in lots[::-1]:
        words.append(lot[rest % len(lot)])
        rest = rest // len(lot)
    return Card([Column(word) for word in words[::-1]])


def choice_number(lots, words):
    """Return the number of the choice of these words, one out of each lot."""
    number = 0
    for c, lot in enumerate(lots):
        number = number * len(lot) + lot.index(words[c])
    return number


def cards_between(one, other):
    """Yield all cards between two cards in the order of their words."""
    lots = word_lots(one, other)
    for number in range(how_many_choices(lots)):
        yield chosen_card(lots, number)


def how_many_between(one, other):
    """Return how many cards lie between two cards, both included."""
    return how_many_choices(word_lots(one, other))


def outside_place(behind, before, rows):
    """Return the first (column, boundary) at which a height of `rows` is outside of the two others, or None."""
    for c, row in enumerate(rows):
        for t, height in enumerate(row):
            if not before[c][t] <= height <= behind[c][t]:
                return (c, t)
    return None


def between_index(one, other, card):
    """Return the number of a card among those between two cards."""
    check_nest((one, other, card))
    lots = word_lots(one, other)
    place = outside_place(height_rows(one), height_rows(other), height_rows(card))
    if place is not None:
        raise NotBetween(place[0], place[1])
    return choice_number(lots, card.words)


def between_at(one, other, number):
    """Return the card between two cards that has this number."""
    lots = word_lots(one, other)
    if not is_whole(number, 0, how_many_choices(lots) - 1):
        raise NoSuch(number)
    return chosen_card(lots, number)


def longest_row(one, other):
    """Return the longest row of cards from `one` to `other` that fills the squares in their order."""
    squares = squares_between(one, other)
    columns = list(one.columns)
    rows = [list(row) for row in height_rows(one)]
    cards = [Card(columns)]
    # The squares left of a square and below it come ahead of it in the order,
    # so each one may be filled at its turn, and none ahead of it is left.
    for c, x, y in squares:
        rows[c][x - y + one.size] -= 2
        columns[c] = Column.of_heights(rows[c])
        cards.append(Card(columns))
    return tuple(cards)


def how_many_column_rows(words):
    """Return how many rows lead from the first one of the words between two columns to the last one,
    each next word with one square more filled."""
    ways = {word: 0 for word in words}
    ways[words[0]] = 1
    # Filling a square makes a word greater, so all words ahead of it are done when its turn comes.
    for word in words:
        for t in range(len(word) - 1):
            if word[t:t + 2] == "do":
                filled = word[:t] + "od" + word[t + 2:]
                if filled in ways:
                    ways[filled] = ways[filled] + ways[word]
    return ways[words[-1]]


def how_many_rows(one, other):
    """Return how many longest rows there are between two cards."""
    lots = word_lots(one, other)
    total = 1
    filled = 0
    counts = [0] * one.width
    for c, _, _ in squares_between(one, other):
        counts[c] += 1
    for c, lot in enumerate(lots):
        filled += counts[c]
        total *= comb(filled, counts[c]) * how_many_column_rows(lot)
    return total


def is_one_more(rows, nexts):
    """Tell whether the second heights are the first ones with one square more filled and none less."""
    changes = [
        height - nexts[c][t]
        for c, row in enumerate(rows)
        for t, height in enumerate(row)
    ]
    return min(changes) >= 0 and sum(changes) == 2


def longest_fault(one, other, cards):
    """Return None if the cards are a longest row from `one` to `other`, else what is wrong with it."""
    check_behind(one, other)
    if len(cards) == 0 or cards[0] != one or cards[-1] != other:
        return "ends"
    tables = [height_rows(card) for card in cards]
    for rows, nexts in pairwise(tables):
        if not is_one_more(rows, nexts):
            return "step"
    return None
