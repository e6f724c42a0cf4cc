"""Following: panels become known one after another, each by an equation that bears no other unknown one."""

from slitstairs.columns import is_number, is_sequence, is_whole
from slitstairs.equations import equation_rows
from slitstairs.errors import BadKnown, NotFollowing
from slitstairs.motions import OnlyOpens, panel_letters
from slitstairs.ratios import Ratio


def round_with(rounds, panel):
    """Return the number, from 1, of the first round that has a panel, or None."""
    for number, pairs in enumerate(rounds, start=1):
        if any([told == panel for told, _ in pairs]):
            return number
    return None


def steps_of(rounds):
    """Return the pairs of all rounds in one tuple."""
    return tuple([pair for pairs in rounds for pair in pairs])


class Follows:
    """The result if all panels become known: for each round the pairs (panel, name of an equation)."""

    def __init__(self, rounds):
        self.rounds = rounds

    @property
    def steps(self):
        """The pairs of all rounds."""
        return steps_of(self.rounds)

    def round_of(self, panel):
        """Return the number of the round that makes a panel known, 0 if none does."""
        found = round_with(self.rounds, panel)
        return 0 if found is None else found

    def __eq__(self, other):
        return isinstance(other, Follows) and self.rounds == other.rounds


class Stuck:
    """The result if some panels do not become known: the rounds, the panels known at the end, and the rest."""

    def __init__(self, rounds, known, rest):
        self.rounds = rounds
        self.known = known
        self.rest = rest

    @property
    def steps(self):
        """The pairs of all rounds."""
        return steps_of(self.rounds)

    def round_of(self, panel):
        """Return the number of the round that makes a panel known, None for one of the rest, 0 for another one."""
        found = round_with(self.rounds, panel)
        if found is None and panel not in self.rest:
            return 0
        return found

    def __eq__(self, other):
        return (
            isinstance(other, Stuck)
            and self.rounds == other.rounds
            and self.known == other.known
            and self.rest == other.rest
        )


def check_known(letters, known):
    """Raise BadKnown if `known` is no lot of panels."""
    if not is_sequence(known):
        raise BadKnown(0, "known")
    for index, panel in enumerate(known):
        if not is_whole(panel, 0, len(letters) - 1):
            raise BadKnown(index, "panel")
        if panel in known[:index]:
            raise BadKnown(index, "double")


def both_systems(card):
    """Return the equations of the card by letter."""
    return {letter: equation_rows(card, letter) for letter in ("d", "o")}


def unknown_panels(equation, known):
    """Return the panels that the equation bears and that are not among the known ones."""
    return [panel for panel, _ in equation.factors if panel not in known]


def next_round(systems, known):
    """Return the pairs (panel, name) of the panels that become known in one round."""
    names = {}
    for letter in ("d", "o"):
        for equation in systems[letter]:
            missing = unknown_panels(equation, known)
            if len(missing) == 1 and missing[0] not in names:
                names[missing[0]] = equation.name
    return tuple([(panel, names[panel]) for panel in sorted(names)])


def rounds_from(systems, known):
    """Return the rounds from the panels known from the beginning, and a dict of all known at the end."""
    known_now = {panel: True for panel in known}
    rounds = []
    pairs = next_round(systems, known_now)
    while pairs:
        rounds.append(pairs)
        for panel, _ in pairs:
            known_now[panel] = True
        pairs = next_round(systems, known_now)
    return tuple(rounds), known_now


def follow_of(card, known=()):
    """Return Follows if all panels become known from those known from the beginning, else Stuck."""
    letters = panel_letters(card)
    check_known(letters, known)
    rounds, known_now = rounds_from(both_systems(card), known)
    rest = tuple([panel for panel in range(len(letters)) if panel not in known_now])
    return Stuck(rounds, tuple(sorted(known_now)), rest) if rest else Follows(rounds)


def card_follows(card):
    """Tell whether all panels of the card become known from nothing."""
    return isinstance(follow_of(card), Follows)


def equation_named(system, name):
    """Return the equation of a system that has this name, or None."""
    # True equals 1, but it is no number of a column.
    if not all([isinstance(part, str) or is_number(part) for part in name]):
        return None
    for equation in system:
        if equation.name == name:
            return equation
    return None


def pair_fault(systems, letters, pair, known, now):
    """Return None if a pair is a step from the panels known ahead of its round, else what is wrong with it;
    `now` has these and the panels of the pairs ahead of it."""
    panel, name = pair
    if not is_whole(panel, 0, len(letters) - 1) or panel in now:
        return "panel"
    equation = equation_named(systems[letters[panel]], name)
    if equation is None:
        return "name"
    if equation.factor(panel) == 0:
        return "factor"
    return None if unknown_panels(equation, known) == [panel] else "early"


def rounds_fault(systems, letters, rounds, known):
    """Return what is wrong with the rounds, or None, and the panels that are known behind them."""
    now = list(known)
    for pairs in rounds:
        if len(pairs) == 0:
            return "round", now
        ahead = list(now)
        for pair in pairs:
            fault = pair_fault(systems, letters, pair, ahead, now)
            if fault is not None:
                return fault, now
            now.append(pair[0])
    return None, now


def is_lot_of(thing, panels):
    """Tell whether `thing` is the tuple of these panels."""
    return isinstance(thing, tuple) and all([is_number(panel) for panel in thing]) and list(thing) == panels


def follow_fault(card, result, known=()):
    """Return None if the result is right of the card and the known panels, else what is wrong with it."""
    letters = panel_letters(card)
    check_known(letters, known)
    systems = both_systems(card)
    fault, now = rounds_fault(systems, letters, result.rounds, known)
    if fault is not None:
        return fault
    rest = [panel for panel in range(len(letters)) if panel not in now]
    if isinstance(result, Follows):
        return "rest" if rest else None
    if not is_lot_of(result.known, sorted(now)):
        return "known"
    if not rest or not is_lot_of(result.rest, rest):
        return "rest"
    equations = [*systems["d"], *systems["o"]]
    return "open" if any([len(unknown_panels(equation, now)) == 1 for equation in equations]) else None


def step_combination(system, name, panel, combinations):
    """Return the combination of a panel that an equation makes known, from those of the other panels it bears."""
    equation = equation_named(system, name)
    found = [Ratio(1 if told.name == name else 0) for told in system]
    for other, factor in equation.factors:
        if other != panel:
            times = Ratio(factor)
            found = [ratio - times * taken for ratio, taken in zip(found, combinations[other])]
    divisor = Ratio(equation.factor(panel))
    return tuple([ratio.over(divisor) for ratio in found])


def opening_of(card):
    """Return the paper of a card that follows: it only opens."""
    result = follow_of(card)
    if isinstance(result, Stuck):
        raise NotFollowing(result.rest)
    systems = both_systems(card)
    letters = panel_letters(card)
    combinations = {}
    for panel, name in result.steps:
        combinations[panel] = step_combination(systems[letters[panel]], name, panel, combinations)
    return OnlyOpens(tuple([combinations[panel] for panel in range(len(letters))]))
