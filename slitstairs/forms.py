"""Forms: the rates of all panels of a letter, led on from those of a lot of them."""

from slitstairs.columns import is_number, is_sequence, is_whole
from slitstairs.equations import equation_rows
from slitstairs.errors import BadKnown, BadRates, NotFollowing
from slitstairs.follow import check_known, equation_named, rounds_from, steps_of
from slitstairs.motions import panel_letters
from slitstairs.ratios import Ratio

GREATEST_RATE = 10 ** 9


class Led:
    """The result if the rates of a lot keep all equations: a ratio for each panel of the letter."""

    def __init__(self, letter, rates):
        self.letter = letter
        self.rates = rates

    def __eq__(self, other):
        return isinstance(other, Led) and self.letter == other.letter and self.rates == other.rates


class Clash:
    """The result if they do not: the name of the first equation that is not kept, and what it adds up to."""

    def __init__(self, name, total):
        self.name = name
        self.total = total

    def __eq__(self, other):
        return isinstance(other, Clash) and self.name == other.name and self.total == other.total


def check_lot_rates(lot, rates):
    """Raise BadRates if these are not rates of the panels of a lot."""
    if not is_sequence(rates) or len(rates) != len(lot):
        raise BadRates(0, "rates")
    for index, rate in enumerate(rates):
        if not is_whole(rate, -GREATEST_RATE, GREATEST_RATE):
            raise BadRates(index, "rate")


def rated_sum(ratios, rates):
    """Return the sum of the ratios, each times its rate."""
    total = Ratio(0)
    for ratio, rate in zip(ratios, rates):
        total = total + ratio * Ratio(rate)
    return total


class Forms:
    """For each panel of a letter (panel, ratios), one ratio for each panel of a lot, and for each equation
    that does not add up to 0 by itself (name, ratios)."""

    def __init__(self, letter, lot, rows, conditions):
        self.letter = letter
        self.lot = lot
        self.rows = rows
        self.conditions = conditions

    def of(self, panel):
        """Return the ratios of a panel of the letter."""
        for number, ratios in self.rows:
            if is_number(panel) and number == panel:
                return ratios
        raise BadKnown(0, "panel")

    def __call__(self, rates):
        check_lot_rates(self.lot, rates)
        for name, ratios in self.conditions:
            total = rated_sum(ratios, rates)
            if total.top != 0:
                return Clash(name, total)
        return Led(self.letter, tuple([rated_sum(ratios, rates) for _, ratios in self.rows]))

    def __eq__(self, other):
        return (
            isinstance(other, Forms)
            and self.letter == other.letter
            and self.lot == other.lot
            and self.rows == other.rows
            and self.conditions == other.conditions
        )


def check_letter_lot(letters, letter, lot):
    """Raise BadKnown if `lot` is no lot of panels of this letter."""
    if not is_sequence(lot):
        raise BadKnown(0, "known")
    for index, panel in enumerate(lot):
        if is_whole(panel, 0, len(letters) - 1) and letters[panel] != letter:
            raise BadKnown(index, "panel")
        check_known(letters, lot[:index + 1])


def form_sum(factors, forms, many):
    """Return the sum of the forms of some panels, each times its factor: so many ratios."""
    found = [Ratio(0)] * many
    for panel, factor in factors:
        times = Ratio(factor)
        found = [ratio + times * led for ratio, led in zip(found, forms[panel])]
    return tuple(found)


def step_form(equation, panel, forms, many):
    """Return the form of a panel that an equation makes known, from those of the other panels it bears."""
    others = [(other, factor) for other, factor in equation.factors if other != panel]
    divisor = Ratio(equation.factor(panel))
    return tuple([(-ratio).over(divisor) for ratio in form_sum(others, forms, many)])


def forms_of(card, letter, lot):
    """Return the forms of the panels of a letter, led on from a lot from which all of them follow."""
    letters = panel_letters(card)
    check_letter_lot(letters, letter, lot)
    system = equation_rows(card, letter)
    # The other letter has a system of its own, and nothing in this one hangs on it.
    rounds, known = rounds_from({told: system if told == letter else () for told in ("d", "o")}, lot)
    panels = [panel for panel, told in enumerate(letters) if told == letter]
    rest = [panel for panel in panels if panel not in known]
    if rest:
        raise NotFollowing(tuple(rest))
    many = len(lot)
    forms = {panel: tuple([Ratio(1 if k == place else 0) for k in range(many)]) for place, panel in enumerate(lot)}
    for panel, name in steps_of(rounds):
        forms[panel] = step_form(equation_named(system, name), panel, forms, many)
    totals = [(equation.name, form_sum(equation.factors, forms, many)) for equation in system]
    return Forms(
        letter,
        tuple(lot),
        tuple([(panel, forms[panel]) for panel in panels]),
        tuple([(name, ratios) for name, ratios in totals if any([ratio.top != 0 for ratio in ratios])]),
    )
