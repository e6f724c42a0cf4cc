"""Slopes from which two cards look alike."""

from slitstairs.views import (
    are_level, change_boundaries, check_cards, check_fits, check_slope, front_view, top_view)


def first_unlike(one, other):
    """Return the first place at which two rows of one length differ, or None."""
    for place, thing in enumerate(one):
        if thing != other[place]:
            return place
    return None


def first_unlike_place(rows, others):
    """Return the first (row, place) at which some rows differ from others, or None."""
    for c, row in enumerate(rows):
        place = first_unlike(row, others[c])
        if place is not None:
            return (c, place)
    return None


def alike_from(one, other, p, q):
    """Return None if two cards look alike from a slope with every print, else the first cell whose ink alone
    makes them look unlike."""
    check_cards(one, other)
    check_slope(p, q)
    return None if p == q else first_unlike_place(one.words, other.words)


def spot_inks(word, inks, p, q):
    """Return the inks that the spots of a column show, seen from a slope."""
    found = []
    for letter, ink in zip(word, inks):
        found.extend([ink] * (p if letter == "d" else q))
    return found


def card_spots(card, printed, p, q):
    """Return for each column the inks that its spots show, seen from a slope."""
    return [spot_inks(word, inks, p, q) for word, inks in zip(card.words, printed.inks)]


def alike_by(one, other, printed, p, q):
    """Return None if two cards look alike with a print from a slope, else the first (column, spot) that differs."""
    check_cards(one, other)
    check_fits(one, printed)
    check_slope(p, q)
    return first_unlike_place(card_spots(one, printed, p, q), card_spots(other, printed, p, q))


def alike_between(one, other, printed):
    """Tell whether two cards look alike with a print from the slopes between."""
    return all([
        are_level(column, other.columns[c], change_boundaries(printed.inks[c]))
        for c, column in enumerate(one.columns)
    ])


def slopes_alike(one, other, printed):
    """Return the words of the slopes from which two cards look alike with a print."""
    check_cards(one, other)
    check_fits(one, printed)
    found = []
    if front_view(one, printed) == front_view(other, printed):
        found.append("front")
    if top_view(one, printed) == top_view(other, printed):
        found.append("top")
    found.append("even")
    if alike_between(one, other, printed):
        found.append("between")
    return tuple(found)
