"""Views: what a print shows on a card from the front, from above, and from the slopes between."""

from slitstairs.columns import is_sequence, is_whole
from slitstairs.errors import BadPlace, BadSlope, BadView, NoColumn, NoSuch
from slitstairs.prints import Print
from slitstairs.solving import are_numbers

GREATEST_SLOPE = 9


def check_column(card, c):
    """Raise NoColumn if a card, or another thing of a width, has no column c."""
    if not is_whole(c, 0, card.width - 1):
        raise NoColumn(c)


def check_cards(one, other):
    """Raise BadView if two cards differ in size or width."""
    if one.size != other.size or one.width != other.width:
        raise BadView("cards")


def check_fits(card, printed):
    """Raise BadView if the print does not fit the card."""
    if printed.size != card.size or printed.width != card.width:
        raise BadView("print")


def check_slope(p, q):
    """Raise BadSlope if (p, q) is no slope."""
    if not is_whole(p, 0, GREATEST_SLOPE):
        raise BadSlope("p")
    if not is_whole(q, 0, GREATEST_SLOPE):
        raise BadSlope("q")
    if p == 0 and q == 0:
        raise BadSlope("both")


def change_boundaries(inks):
    """Return the boundaries of a column at which its ink changes."""
    return [boundary for boundary in range(1, len(inks)) if inks[boundary] != inks[boundary - 1]]


def are_level(one, other, boundaries):
    """Tell whether two columns have the same height at each of these boundaries."""
    heights = one.heights
    others = other.heights
    return all([heights[boundary] == others[boundary] for boundary in boundaries])


def letter_inks(card, printed, letter):
    """Return for each column the inks of its cells of a letter."""
    check_fits(card, printed)
    return tuple([
        tuple([ink for step, ink in zip(word, inks) if step == letter])
        for word, inks in zip(card.words, printed.inks)
    ])


def front_view(card, printed):
    """Return for each column the inks of its cells d."""
    return letter_inks(card, printed, "d")


def top_view(card, printed):
    """Return for each column the inks of its cells o."""
    return letter_inks(card, printed, "o")


def are_ink_rows(thing, card):
    """Tell whether `thing` has for each column of the card as many inks as the size."""
    if not is_sequence(thing) or len(thing) != card.width:
        return False
    return all([are_numbers(row, card.size) for row in thing])


def inks_of(word, front, top):
    """Return the inks of a column, step by step, from those of its cells d and of its cells o."""
    return [
        (front if letter == "d" else top)[word[:t].count(letter)]
        for t, letter in enumerate(word)
    ]


def print_from(card, front, top):
    """Return the print that looks like this on the card from the front and from above."""
    if not are_ink_rows(front, card):
        raise BadView("front")
    if not are_ink_rows(top, card):
        raise BadView("top")
    return Print([inks_of(word, front[c], top[c]) for c, word in enumerate(card.words)])


def column_pieces(word, inks, p, q):
    """Return the pieces (ink, length) of a column that are seen from a slope."""
    pieces = []
    for letter, ink in zip(word, inks):
        length = p if letter == "d" else q
        if length > 0:
            if pieces and pieces[-1][0] == ink:
                length = length + pieces.pop()[1]
            pieces.append((ink, length))
    return tuple(pieces)


def slope_view(card, printed, p, q):
    """Return for each column its pieces (ink, length) that are seen from a slope."""
    check_fits(card, printed)
    check_slope(p, q)
    return tuple([column_pieces(word, inks, p, q) for word, inks in zip(card.words, printed.inks)])


def word_span(word, step, p, q):
    """Return where a cell of a word begins and ends, seen from a slope."""
    ends = [p * word[:boundary].count("d") + q * word[:boundary].count("o") for boundary in (step, step + 1)]
    return (ends[0], ends[1])


def cell_span(card, column, step, p, q):
    """Return where a cell begins and ends, seen from a slope."""
    if not is_whole(column, 0, card.width - 1) or not is_whole(step, 0, 2 * card.size - 1):
        raise BadPlace(column, step)
    check_slope(p, q)
    return word_span(card.words[column], step, p, q)


def cell_seen(card, column, spot, p, q):
    """Return the step of the cell that a spot of a column shows, seen from a slope."""
    check_column(card, column)
    check_slope(p, q)
    if not is_whole(spot, 0, card.size * (p + q) - 1):
        raise NoSuch(spot)
    word = card.words[column]
    # A cell of length 0 ends where it begins, so it is never the first to end behind the spot.
    return [step for step in range(len(word)) if word_span(word, step, p, q)[1] > spot][0]
