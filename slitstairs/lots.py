"""Lots of numbers, and which of them are least: no other one lies within them."""

from slitstairs.shapes import lot_mask


def least_lots(lots):
    """Return the least ones of some ascending lots, which come by length, then ascending."""
    found = []
    masks = []
    for lot in lots:
        mask = lot_mask(lot)
        if not any([mask & least == least for least in masks]):
            found.append(lot)
            masks.append(mask)
    return tuple(found)
