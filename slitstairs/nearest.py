"""The words that miss the fewest wished places of a column, and what must be waived so that some word is granted."""

from slitstairs.allcolumns import all_columns
from slitstairs.books import is_word_of
from slitstairs.cards import Card
from slitstairs.columns import is_number, is_sequence
from slitstairs.lots import least_lots
from slitstairs.solving import are_numbers
from slitstairs.views import check_column
from slitstairs.wishes import missing_moves, move_misses


class Nearest:
    """A word, how many of its cells miss, and for each web place the fewest misses on a way there."""

    def __init__(self, word, misses, prices):
        self.word = word
        self.misses = misses
        self.prices = prices

    def __eq__(self, other):
        return (
            isinstance(other, Nearest)
            and self.word == other.word
            and self.misses == other.misses
            and self.prices == other.prices
        )


def web_places(size, boundary):
    """Return the web places (downs, outs) at a boundary, ascending."""
    return [(downs, boundary - downs) for downs in range((boundary + 1) // 2, min(boundary, size) + 1)]


def priced_moves(wish, c, downs, outs):
    """Return (downs, outs, price) for each move from a web place: where it leads, and 1 if it misses, else 0."""
    found = []
    if downs < wish.size:
        found.append((downs + 1, outs, 1 if move_misses(wish, c, ("d", downs, outs)) else 0))
    if outs < downs:
        found.append((downs, outs + 1, 1 if move_misses(wish, c, ("o", downs, outs)) else 0))
    return found


def least_prices(wish, c):
    """Return for each boundary, for each web place there, the fewest misses on a way there."""
    prices = {(0, 0): 0}
    for boundary in range(2 * wish.size):
        for downs, outs in web_places(wish.size, boundary):
            for led_downs, led_outs, price in priced_moves(wish, c, downs, outs):
                led = (led_downs, led_outs)
                total = prices[(downs, outs)] + price
                prices[led] = min(total, prices.get(led, total))
    return tuple([
        tuple([prices[place] for place in web_places(wish.size, boundary)])
        for boundary in range(2 * wish.size + 1)
    ])


def how_many_miss(wish, c, word):
    """Return how many cells of a word miss in a column."""
    return len(missing_moves(wish, c, word))


def nearest_word(wish, c):
    """Return the first word with the fewest cells that miss in a column, and prices that show that none has fewer."""
    check_column(wish, c)
    words = [column.word for column in all_columns(wish.size)]
    misses = [how_many_miss(wish, c, word) for word in words]
    least = min(misses)
    return Nearest([word for word, many in zip(words, misses) if many == least][0], least, least_prices(wish, c))


def are_web_prices(thing, size):
    """Tell whether `thing` has for each boundary a whole number for each web place there."""
    if not is_sequence(thing) or len(thing) != 2 * size + 1:
        return False
    return all([are_numbers(row, len(web_places(size, boundary))) for boundary, row in enumerate(thing)])


def has_dear_place(wish, c, prices):
    """Tell whether a move leads to a web place that costs more than the one from which it leads and the move."""
    costs = {}
    for boundary, row in enumerate(prices):
        for place, price in zip(web_places(wish.size, boundary), row):
            costs[place] = price
    return any([
        costs[(led_downs, led_outs)] > cost + price
        for (downs, outs), cost in costs.items()
        for led_downs, led_outs, price in priced_moves(wish, c, downs, outs)
    ])


def nearest_fault(wish, c, found):
    """Return None if the paper shows that its word misses least in a column, else what is wrong with it."""
    check_column(wish, c)
    if not is_word_of(found.word, wish.size):
        return "word"
    if not is_number(found.misses) or found.misses != how_many_miss(wish, c, found.word):
        return "misses"
    if not are_web_prices(found.prices, wish.size):
        return "prices"
    if found.prices[0][0] > 0:
        return "start"
    if has_dear_place(wish, c, found.prices):
        return "move"
    return "end" if found.prices[-1][0] < found.misses else None


def nearest_card(wish):
    """Return the card of the nearest words of all columns."""
    words = [nearest_word(wish, c).word for c in range(wish.width)]
    return Card.of_words(*words)


def missed_lot(wish, c, word):
    """Return the wished places of a column whose cells miss with a word, as ascending numbers, the front ahead."""
    return tuple(sorted([
        downs if letter == "d" else wish.size + outs
        for letter, downs, outs in missing_moves(wish, c, word)
    ]))


def least_waivers(wish, c):
    """Return all least lots of wished places of a column that must be loosened so that some word is granted."""
    check_column(wish, c)
    size = wish.size
    # A lot is enough exactly if all places that some word misses are in it.
    missed = sorted([missed_lot(wish, c, column.word) for column in all_columns(size)])
    return tuple([
        tuple([("front", c, number) if number < size else ("top", c, number - size) for number in lot])
        for lot in least_lots(sorted(missed, key=len))
    ])
