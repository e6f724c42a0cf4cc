"""Knots: lots of panels of which no equation bears exactly one."""

from slitstairs.bookmends import lots_of
from slitstairs.columns import is_sequence
from slitstairs.equations import equation_rows
from slitstairs.errors import BadKnown, TooManyPanels
from slitstairs.follow import check_known
from slitstairs.lots import least_lots
from slitstairs.motions import panel_letters
from slitstairs.panels import letter_panels
from slitstairs.shapes import borne_masks, lot_mask

MOST_LOT_PANELS = 12


def check_one_letter(letters, lot):
    """Raise BadKnown if `lot` is no lot of panels of one letter."""
    if not is_sequence(lot):
        raise BadKnown(0, "known")
    for index, panel in enumerate(lot):
        check_known(letters, lot[:index + 1])
        if letters[panel] != letters[lot[0]]:
            raise BadKnown(index, "letter")


def equation_masks(card, letter):
    """Return the masks, each once, of the panels that the equations of a letter bear."""
    return sorted(set(borne_masks(equation_rows(card, letter))))


def is_one_bit(mask):
    """Tell whether a number has just one bit."""
    return mask != 0 and mask & (mask - 1) == 0


def is_knot_by(masks, lot):
    """Tell whether of the panels of a lot, of which there is one at least, no mask has exactly one."""
    held = lot_mask(lot)
    return held != 0 and not any([is_one_bit(held & mask) for mask in masks])


def is_knot(card, lot):
    """Tell whether a lot of panels of one letter is a knot."""
    letters = panel_letters(card)
    check_one_letter(letters, lot)
    return len(lot) > 0 and is_knot_by(equation_masks(card, letters[lot[0]]), lot)


def panel_lots(card, letter):
    """Return all lots of panels of a letter, by length, then ascending."""
    panels = letter_panels(card, letter)
    if len(panels) > MOST_LOT_PANELS:
        raise TooManyPanels(len(panels))
    return [tuple([panels[place] for place in lot]) for lot in lots_of(len(panels))]


def knots_of(card, letter):
    """Return all least knots of a letter, by length, then ascending."""
    lots = panel_lots(card, letter)
    masks = equation_masks(card, letter)
    return least_lots([lot for lot in lots if is_knot_by(masks, lot)])
