"""All cards without marks of a size and width, numbered in the order of their words."""

from slitstairs.allcolumns import all_columns, check_size, column_at, column_index, how_many_columns, plain_column
from slitstairs.cards import MOST_WIDTH, Card
from slitstairs.columns import is_whole
from slitstairs.errors import BadWidth, NoSuch


def check_width(width):
    """Raise BadWidth if `width` is no width of a card."""
    if not is_whole(width, 1, MOST_WIDTH):
        raise BadWidth(width)


def choice_at(many, width, number):
    """Return the digits of a number, `width` of them, where a digit counts to `many`."""
    choice = []
    rest = number
    for _ in range(width):
        choice.append(rest % many)
        rest = rest // many
    return choice[::-1]


def all_cards(size, width):
    """Yield all cards without marks of a size and width in the order of their words."""
    total = how_many_cards(size, width)
    columns = list(all_columns(size))
    for number in range(total):
        yield Card([columns[k] for k in choice_at(len(columns), width, number)])


def how_many_cards(size, width):
    """Return how many cards without marks of a size and width there are."""
    columns = how_many_columns(size)
    check_width(width)
    total = 1
    for _ in range(width):
        total *= columns
    return total


def card_at(size, width, number):
    """Return the card of a size and width that has this number."""
    if not is_whole(number, 0, how_many_cards(size, width) - 1):
        raise NoSuch(number)
    choice = choice_at(how_many_columns(size), width, number)
    return Card([column_at(size, k) for k in choice])


def card_index(card):
    """Return the number of a card, its marks disregarded."""
    many = how_many_columns(card.size)
    index = 0
    for column in card:
        index = index * many + column_index(column)
    return index


def plain_card(size, width):
    """Return the card of plain columns of a size and width."""
    check_size(size)
    check_width(width)
    return Card([plain_column(size)] * width)
