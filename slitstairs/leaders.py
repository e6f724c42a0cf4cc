"""Leader lots, from which all panels of a letter follow, and panels that are held."""

from slitstairs.columns import is_whole
from slitstairs.errors import BadHold
from slitstairs.follow import both_systems, rounds_from
from slitstairs.knots import knots_of, panel_lots
from slitstairs.lots import least_lots
from slitstairs.motions import panel_letters
from slitstairs.shapes import lot_mask


def meets_all(lot, masks):
    """Tell whether a lot has a panel in common with each of the lots of these masks."""
    held = lot_mask(lot)
    return all([held & mask != 0 for mask in masks])


def leaders_of(card, letter):
    """Return all least lots of panels of a letter from which all of them follow, by length, then ascending."""
    # What does not follow from a lot is a knot that the lot does not meet, so
    # the lots that lead are those that meet each least knot.
    masks = [lot_mask(knot) for knot in knots_of(card, letter)]
    return least_lots([lot for lot in panel_lots(card, letter) if meets_all(lot, masks)])


class Holding:
    """Panels of a card that are held: what is known from them at the end, and what is left."""

    def __init__(self, card):
        self.card = card
        self.systems = both_systems(card)
        self.many_panels = len(panel_letters(card))
        self.held = ()
        self.known = self.known_from(())
        self.rest = self.left_by(self.known)

    def known_from(self, held):
        """Return the panels, ascending, that are known at the end if these are held."""
        _, known = rounds_from(self.systems, held)
        return tuple(sorted(known))

    def left_by(self, known):
        """Return the panels, ascending, that are not among these."""
        return tuple([panel for panel in range(self.many_panels) if panel not in known])

    def check_panel(self, panel):
        """Raise BadHold if the card has no panel of this number."""
        if not is_whole(panel, 0, self.many_panels - 1):
            raise BadHold(panel, "panel")

    def held_with(self, panels):
        """Return the panels held, ascending, if these are held as well, one after another."""
        held = list(self.held)
        for panel in panels:
            self.check_panel(panel)
            if panel in held:
                raise BadHold(panel, "held")
            held.append(panel)
        return tuple(sorted(held))

    def hold_just(self, held):
        """Let these panels be held and no others."""
        self.held = held
        self.known = self.known_from(held)
        self.rest = self.left_by(self.known)

    def hold(self, panel):
        """Hold one panel more, and return the panels that become known by it."""
        before = self.known
        self.hold_just(self.held_with((panel,)))
        return tuple([told for told in self.known if told not in before])

    def free(self, panel):
        """Let one panel go, and return the panels that are no longer known."""
        self.check_panel(panel)
        if panel not in self.held:
            raise BadHold(panel, "free")
        before = self.known
        self.hold_just(tuple([told for told in self.held if told != panel]))
        return tuple([told for told in before if told not in self.known])

    def try_holds(self, panels):
        """Return the rest that would be left if these panels were held as well."""
        return self.left_by(self.known_from(self.held_with(panels)))

    def __len__(self):
        return len(self.held)

    def __iter__(self):
        return iter(self.held)
