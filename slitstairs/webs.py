"""Webs: the words and the cards that a wish grants, numbered in order."""

from slitstairs.between import choice_number, chosen_card, how_many_choices
from slitstairs.columns import is_whole
from slitstairs.errors import NoColumn, NoSuch, NotGranted, NoWord, UnlikeWish
from slitstairs.wishes import free_moves


def granted_lot(wish, c):
    """Return the granted words of a column, ascending."""
    found = [("", 0, 0)]
    for _ in range(2 * wish.size):
        found = [
            (word + letter, led_downs, led_outs)
            for word, downs, outs in found
            for letter, led_downs, led_outs in free_moves(wish, c, downs, outs)
        ]
    return [word for word, _, _ in found]


def column_words_of(wish, c):
    """Return the granted words of column c, or raise NoColumn if the wish has no such column."""
    if not is_whole(c, 0, wish.width - 1):
        raise NoColumn(c)
    return granted_lot(wish, c)


def granted_words(wish, c):
    """Yield the granted words of a column, ascending."""
    for word in column_words_of(wish, c):
        yield word


def count_words(wish, c):
    """Return how many granted words a column has."""
    return len(column_words_of(wish, c))


def word_at(wish, c, number):
    """Return the granted word of a column that has this number."""
    words = column_words_of(wish, c)
    if not is_whole(number, 0, len(words) - 1):
        raise NoSuch(number)
    return words[number]


def word_index(wish, c, word):
    """Return the number of a granted word of a column."""
    words = column_words_of(wish, c)
    if not isinstance(word, str) or word not in words:
        raise NotGranted(word)
    return words.index(word)


def sure_letters(wish, c):
    """Return for each step of a column the letter that all granted words have there, or None."""
    words = column_words_of(wish, c)
    if not words:
        raise NoWord(c)
    return tuple([
        letter if all([word[t] == letter for word in words]) else None
        for t, letter in enumerate(words[0])
    ])


def granted_lots(wish):
    """Return the granted words of each column."""
    return [granted_lot(wish, c) for c in range(wish.width)]


def granted_cards(wish):
    """Yield all granted cards without marks in the order of words."""
    lots = granted_lots(wish)
    for number in range(how_many_choices(lots)):
        yield chosen_card(lots, number)


def count_granted(wish):
    """Return how many cards without marks are granted."""
    return how_many_choices(granted_lots(wish))


def granted_card_at(wish, number):
    """Return the granted card that has this number."""
    lots = granted_lots(wish)
    if not is_whole(number, 0, how_many_choices(lots) - 1):
        raise NoSuch(number)
    return chosen_card(lots, number)


def granted_card_index(wish, card):
    """Return the number of a granted card, its marks disregarded."""
    if card not in wish:
        raise NotGranted(card)
    return choice_number(granted_lots(wish), card.words)


def parting_card(one, other):
    """Return the first card without marks that the first wish grants and the second one does not, or None."""
    if other.size != one.size:
        raise UnlikeWish("size")
    if other.width != one.width:
        raise UnlikeWish("width")
    lots = granted_lots(one)
    if not all([len(lot) > 0 for lot in lots]):
        return None
    first = chosen_card(lots, 0)
    if first not in other:
        return first
    # The first words are all granted. The further right the one word stands that
    # is not, the more of them are still there ahead of it.
    others = granted_lots(other)
    for c in range(one.width - 1, -1, -1):
        barred = [word for word in lots[c] if word not in others[c]]
        if barred:
            return chosen_card([barred if k == c else lot for k, lot in enumerate(lots)], 0)
    return None
