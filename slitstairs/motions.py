"""Small motions of a card, decided for all opening angles at once."""

from slitstairs.columns import is_number, is_sequence, is_whole
from slitstairs.equations import equation_rows
from slitstairs.errors import BadRates, NoPanel, NotGeared
from slitstairs.panels import how_many_panels, letter_panels, panel_table, panels_of
from slitstairs.ratios import Ratio
from slitstairs.solving import Reduction, are_numbers, are_ratios, in_lowest_form, independent_rows, over_one_bottom


def as_tuples(thing):
    """Return `thing` with tuples in place of lists."""
    return tuple([as_tuples(part) for part in thing]) if is_sequence(thing) else thing


class OnlyOpens:
    """The result if all rates must be 0: for each panel the ratios of the equations that show it."""

    def __init__(self, combinations):
        self.combinations = as_tuples(combinations)


class Sways:
    """The result if there is a motion: the letter of the panels that turn and the rates of all."""

    def __init__(self, letter, rates):
        self.letter = letter
        self.rates = as_tuples(rates)


class Still:
    """The result if a panel's rate is 0 in every motion: the ratios of the equations that show it."""

    def __init__(self, combination):
        self.combination = as_tuples(combination)


class Geared:
    """The result if a panel's rate is in every motion a ratio times another one's."""

    def __init__(self, ratio, combination):
        self.ratio = ratio
        self.combination = as_tuples(combination)


class Apart:
    """The result if there is no such ratio: the rates of two motions that show it."""

    def __init__(self, first, second):
        self.first = as_tuples(first)
        self.second = as_tuples(second)


def panel_letters(card):
    """Return the letters of the panels, by number."""
    return [panel.letter for panel in panels_of(card)]


def system_rows(card, letter):
    """Return the numbers of the panels of a letter, and the rows of their rates' factors in its system."""
    panels = letter_panels(card, letter)
    places = {panel: place for place, panel in enumerate(panels)}
    rows = []
    for equation in equation_rows(card, letter):
        row = [0] * len(panels)
        for panel, factor in equation.factors:
            row[places[panel]] = factor
        rows.append(row)
    return panels, rows


class LetterSystem:
    """The system of a letter of a card, solved."""

    def __init__(self, card, letter):
        self.card = card
        self.letter = letter
        self.panels, rows = system_rows(card, letter)
        self.reduction = Reduction(rows, len(self.panels))

    def motions(self):
        """Return as many independent motions of the panels of the letter as there are: rates of all panels."""
        total = how_many_panels(panel_table(self.card))
        found = []
        for solution in self.reduction.solutions():
            rates = [0] * total
            for panel, rate in zip(self.panels, solution):
                rates[panel] = rate
            found.append(tuple(rates))
        return found

    def ratios_for(self, factors):
        """Return ratios with which the equations add up to factors of panels, or None."""
        return self.reduction.ratios_for([factors.get(panel, 0) for panel in self.panels])


def motion_of(card):
    """Return OnlyOpens if the only motion has all rates 0, else Sways with a motion."""
    found = {}
    for letter in ("o", "d"):
        system = LetterSystem(card, letter)
        motions = system.motions()
        if motions:
            return Sways(letter, motions[0])
        for panel in system.panels:
            found[panel] = system.ratios_for({panel: 1})
    return OnlyOpens(tuple([found[panel] for panel in sorted(found)]))


def freedom_of(card, letter):
    """Return how many independent motions of the panels of a letter there are."""
    panels, rows = system_rows(card, letter)
    return len(panels) - len(independent_rows(rows, len(panels)))


def only_opens(card):
    """Tell whether the only motion of the card has all rates 0."""
    return freedom_of(card, "o") == 0 and freedom_of(card, "d") == 0


def adds_up_to(equations, ratios, panel):
    """Tell whether the equations, each times its ratio, add up to 1 for this panel and to 0 for all others."""
    tops, bottom = over_one_bottom(ratios)
    sums = {panel: -bottom}
    for equation, top in zip(equations, tops):
        for number, factor in equation.factors:
            sums[number] = sums.get(number, 0) + top * factor
    return all([number == 0 for number in list(sums.values())])


def combinations_fault(card, combinations):
    """Return None if the combinations show that the card only opens, else what is wrong with them."""
    letters = panel_letters(card)
    if not is_sequence(combinations) or len(combinations) != len(letters):
        return "panels"
    systems = {letter: equation_rows(card, letter) for letter in ("d", "o")}
    for panel, letter in enumerate(letters):
        if not are_ratios(combinations[panel], len(systems[letter])):
            return "ratios"
        if not adds_up_to(systems[letter], combinations[panel], panel):
            return "sum"
    return None


def sways_fault(card, letter, rates):
    """Return None if these are the rates of a motion of the panels of a letter, else what is wrong with them."""
    if not isinstance(letter, str) or letter not in ("d", "o"):
        return "letter"
    letters = panel_letters(card)
    if not are_numbers(rates, len(letters)):
        return "rates"
    if not all([rate == 0 for panel, rate in enumerate(rates) if letters[panel] != letter]):
        return "other"
    if not in_lowest_form(rates):
        return "lowest"
    if not all([equation(rates) == 0 for equation in equation_rows(card, letter)]):
        return "equation"
    return None


def motion_fault(card, told):
    """Return None if what is told of the card's motions is right, else what is wrong with it."""
    if isinstance(told, OnlyOpens):
        return combinations_fault(card, told.combinations)
    return sways_fault(card, told.letter, told.rates)


def check_panels(letters, panels):
    """Raise NoPanel for the first of these that is no number of a panel."""
    for panel in panels:
        if not is_whole(panel, 0, len(letters) - 1):
            raise NoPanel(panel)


def panel_motion(card, panel):
    """Return Still if the panel's rate is 0 in every motion, else Sways with a motion in which it is not."""
    letters = panel_letters(card)
    check_panels(letters, (panel,))
    system = LetterSystem(card, letters[panel])
    for rates in system.motions():
        if rates[panel] != 0:
            return Sways(letters[panel], rates)
    return Still(system.ratios_for({panel: 1}))


def still_panels(card):
    """Return the numbers of the panels whose rate is 0 in every motion."""
    motions = [*LetterSystem(card, "o").motions(), *LetterSystem(card, "d").motions()]
    total = how_many_panels(panel_table(card))
    return tuple([panel for panel in range(total) if all([rates[panel] == 0 for rates in motions])])


def gear_by(system, one, other, turning):
    """Return how two panels are geared, where `turning` is a motion in which `other` turns."""
    for rates in system.motions():
        if rates[one] * turning[other] != turning[one] * rates[other]:
            return Apart(rates, turning)
    ratio = Ratio(turning[one]).over(Ratio(turning[other]))
    if one == other:
        return Geared(ratio, system.ratios_for({}))
    # The factors of the sum that is asked for, times the ratio's bottom, are whole numbers.
    ratios = system.ratios_for({one: ratio.bottom, other: -ratio.top})
    bottom = Ratio(ratio.bottom)
    return Geared(ratio, tuple([each.over(bottom) for each in ratios]))


def gear_of(card, one, other):
    """Return Geared if the rate of `one` is in every motion a ratio times the rate of `other`, else Apart."""
    letters = panel_letters(card)
    check_panels(letters, (one, other))
    if letters[one] != letters[other]:
        raise NotGeared(one, other, "letter")
    system = LetterSystem(card, letters[other])
    turning = [rates for rates in system.motions() if rates[other] != 0]
    if not turning:
        raise NotGeared(one, other, "still")
    return gear_by(system, one, other, turning[0])


def check_rates(card, rates):
    """Raise BadRates if these are not rates of the card's panels."""
    if not is_sequence(rates) or len(rates) != how_many_panels(panel_table(card)):
        raise BadRates(0, "rates")
    for index, rate in enumerate(rates):
        if not is_number(rate):
            raise BadRates(index, "rate")


def column_speeds(word, row, rates):
    """Return for each boundary of a column the sums of the rates of the o cells and of the d cells ahead of it."""
    outs = 0
    downs = 0
    found = [(outs, downs)]
    for t, letter in enumerate(word):
        if letter == "o":
            outs += rates[row[t]]
        else:
            downs += rates[row[t]]
        found.append((outs, downs))
    return tuple(found)


def speed_table(card, rates):
    """Return for each column how its boundaries move with these rates."""
    check_rates(card, rates)
    table = panel_table(card)
    return tuple([column_speeds(word, table[c], rates) for c, word in enumerate(card.words)])


def opening_rates(card):
    """Return the rates with which the boards open: 1 for each d panel, 0 for each o panel."""
    return tuple([1 if letter == "d" else 0 for letter in panel_letters(card)])


def loosening_cells(card):
    """Return the joined cells, none of the boards, whose mark alone makes the sum of both freedoms greater."""
    before = freedom_of(card, "o") + freedom_of(card, "d")
    found = []
    for c in range(card.width - 1):
        for t in card.joined(c)[1:-1]:
            marked = card.with_marks([(c, t)])
            if freedom_of(marked, "o") + freedom_of(marked, "d") > before:
                found.append((c, t))
    return tuple(found)
