"""Cards as texts: a row for each column, then a row for each mark."""

from slitstairs.cards import MOST_WIDTH, Card, mark_of
from slitstairs.columns import word_fault
from slitstairs.errors import BadText

DIGITS = "0123456789"
MOST_DIGITS = 3


def card_text(card):
    """Return the text of a card."""
    slits = [f"slit {c} {t}" for c, t in card.marks]
    return "\n".join([*card.words, *slits])


def is_number_text(text):
    """Tell whether a text is a number of at most three digits, without a 0 in front."""
    if not 1 <= len(text) <= MOST_DIGITS or not all([digit in DIGITS for digit in text]):
        return False
    return text == "0" or text[0] != "0"


def slit_of(row):
    """Return the pair of numbers of a slit row, or None if the row is none."""
    parts = row.split(" ")
    if len(parts) != 3 or parts[0] != "slit" or not is_number_text(parts[1]) or not is_number_text(parts[2]):
        return None
    return (int(parts[1]), int(parts[2]))


def is_word_row(row):
    """Tell whether a row has letters of columns and nothing else."""
    return row != "" and all([letter in ("d", "o") for letter in row])


def word_row_fault(row, words, slits):
    """Return None if a word row may stand behind these words and slits, else what is wrong with it."""
    if slits:
        return "order"
    fault = word_fault(row)
    if fault is not None:
        return fault
    if words and len(row) != len(words[0]):
        return "size"
    return "many" if len(words) >= MOST_WIDTH else None


def slit_row_fault(slit, words, slits):
    """Return None if a slit may stand behind these words and slits, else what is wrong with it."""
    if slits and slit <= slits[-1]:
        return "order"
    if not words:
        return "first"
    return "mark" if mark_of(slit, len(words[0]) // 2, len(words)) is None else None


def parse_card(text):
    """Return the card of a text."""
    if not isinstance(text, str):
        raise BadText(0, "text")
    words = []
    slits = []
    for number, row in enumerate(text.split("\n"), start=1):
        slit = slit_of(row)
        if is_word_row(row):
            fault = word_row_fault(row, words, slits)
            words.append(row)
        elif slit is not None:
            fault = slit_row_fault(slit, words, slits)
            slits.append(slit)
        else:
            fault = "row"
        if fault is not None:
            raise BadText(number, fault)
    return Card.of_words(*words, marks=slits)
