"""Systems of equations of whole numbers, each of which says that a sum is 0."""

from math import gcd, lcm

from slitstairs.columns import is_number, is_sequence, is_whole
from slitstairs.errors import BadSystem, NoRow
from slitstairs.ratios import Ratio

MOST_UNKNOWNS = 200
MOST_ROWS = 400
GREATEST = 10 ** 18


class Implied:
    """The result if a row follows: one ratio for each row of the system."""

    def __init__(self, combination):
        self.combination = combination


class Broken:
    """The result if a row does not follow: numbers that satisfy the system, but not the row."""

    def __init__(self, numbers):
        self.numbers = numbers


def common_divisor(numbers):
    """Return the greatest whole number that divides all of the numbers, 0 if all are 0."""
    found = 0
    for number in numbers:
        found = gcd(found, number)
        if found == 1:
            return 1
    return found


def first_place(numbers):
    """Return the place of the first number that is not 0, or None."""
    for place, number in enumerate(numbers):
        if number != 0:
            return place
    return None


def in_lowest_form(numbers):
    """Tell whether whole numbers are in lowest form."""
    place = first_place(numbers)
    return place is not None and numbers[place] > 0 and common_divisor(numbers) == 1


def lowest_form(numbers):
    """Return the numbers in lowest form that are in proportion to these, which are not all 0."""
    common = common_divisor(numbers)
    if numbers[first_place(numbers)] < 0:
        common = -common
    return tuple([number // common for number in numbers])


def product_sum(row, numbers):
    """Return the sum of the numbers of a row, each times its number."""
    return sum([factor * number for factor, number in zip(row, numbers)])


def cleared(row, other, place):
    """Return a multiple of `row` plus one of `other` with 0 at a place where `other` has no 0."""
    if row[place] == 0:
        return row
    common = gcd(row[place], other[place])
    ours = other[place] // common
    theirs = row[place] // common
    found = [ours * number - theirs * taken for number, taken in zip(row, other)]
    # Without this the numbers would double their length at each step.
    common = common_divisor(found)
    if common > 1:
        found = [number // common for number in found]
    return found


def independent_rows(rows, unknowns):
    """Return (index, place, cleared row) for each row that is no sum of multiples of those ahead of it.

    The place is that of the first of the unknowns left in the cleared row. Each
    cleared row has 0 at the places of those ahead of it. What a row has behind
    the unknowns is led along.
    """
    kept = []
    for index, row in enumerate(rows):
        rest = row
        for _, place, other in kept:
            rest = cleared(rest, other, place)
        first = first_place(rest[:unknowns])
        if first is not None:
            kept.append((index, first, rest))
    return kept


def solved_rows(rows, unknowns):
    """Return (place, solved row) for independent rows: each one alone has no 0 at its place."""
    done = []
    for _, place, row in independent_rows(rows, unknowns)[::-1]:
        rest = row
        for other_place, other in done:
            rest = cleared(rest, other, other_place)
        done.append((place, rest))
    return done


def free_solution(solved, unknowns, free):
    """Return the numbers in lowest form that keep the solved rows, with only this one of the free unknowns not 0."""
    common = 1
    for place, row in solved:
        if row[free] != 0:
            common = lcm(common, row[place])
    numbers = [0] * unknowns
    numbers[free] = common
    for place, row in solved:
        numbers[place] = -row[free] * common // row[place]
    return lowest_form(numbers)


class Reduction:
    """Rows, solved, each solved row with the multiples of independent rows that it is the sum of."""

    def __init__(self, rows, unknowns):
        self.unknowns = unknowns
        self.total = len(rows)
        self.chosen = [index for index, _, _ in independent_rows(rows, unknowns)]
        many = len(self.chosen)
        # One place more than there are chosen rows is kept for a row that is compared with them.
        self.solved = solved_rows(
            [
                [*rows[index], *[1 if other == k else 0 for other in range(many)], 0]
                for k, index in enumerate(self.chosen)
            ],
            unknowns,
        )

    def solutions(self):
        """Return as many independent solutions as there are, in lowest form."""
        places = {place: True for place, _ in self.solved}
        return tuple([
            free_solution(self.solved, self.unknowns, free)
            for free in range(self.unknowns) if free not in places
        ])

    def ratios_for(self, row):
        """Return a ratio for each of the rows so that they add up to `row`, or None."""
        rest = [*row, *([0] * len(self.chosen)), 1]
        for place, other in self.solved:
            rest = cleared(rest, other, place)
        if first_place(rest[:self.unknowns]) is not None:
            return None
        # What is left says that the row, so many times, and the chosen rows add up to 0.
        times = Ratio(-rest[-1])
        found = [Ratio(0)] * self.total
        for k, index in enumerate(self.chosen):
            found[index] = Ratio(rest[self.unknowns + k]).over(times)
        return tuple(found)


def is_row(thing, unknowns):
    """Tell whether `thing` is a row of a system of so many unknowns."""
    if not is_sequence(thing) or len(thing) != unknowns:
        return False
    return all([is_whole(number, -GREATEST, GREATEST) for number in thing])


class System:
    """A system: each row has a number for each unknown, and their products add up to 0."""

    def __init__(self, unknowns, rows):
        if not is_whole(unknowns, 1, MOST_UNKNOWNS):
            raise BadSystem(0, "unknowns")
        if not is_sequence(rows) or len(rows) > MOST_ROWS:
            raise BadSystem(0, "rows")
        for index, row in enumerate(rows):
            if not is_row(row, unknowns):
                raise BadSystem(index, "row")
        self.unknowns = unknowns
        self.rows = tuple([tuple(row) for row in rows])

    @property
    def rank(self):
        """The greatest number of rows of which none is a sum of multiples of the others."""
        return len(independent_rows(self.rows, self.unknowns))

    def solutions(self):
        """Return as many independent solutions as there are, in lowest form."""
        return Reduction(self.rows, self.unknowns).solutions()

    def implies(self, row):
        """Return Implied if a further row follows from those of the system, else Broken."""
        if not is_row(row, self.unknowns):
            raise NoRow(row)
        reduction = Reduction(self.rows, self.unknowns)
        ratios = reduction.ratios_for(row)
        if ratios is not None:
            return Implied(ratios)
        return Broken([numbers for numbers in reduction.solutions() if product_sum(row, numbers) != 0][0])


def are_ratios(thing, many):
    """Tell whether `thing` is a sequence of so many ratios."""
    return is_sequence(thing) and len(thing) == many and all([isinstance(ratio, Ratio) for ratio in thing])


def are_numbers(thing, many):
    """Tell whether `thing` is a sequence of so many whole numbers."""
    return is_sequence(thing) and len(thing) == many and all([is_number(number) for number in thing])


def over_one_bottom(ratios):
    """Return whole numbers and the bottom over which they are these ratios."""
    bottom = 1
    for ratio in ratios:
        bottom = lcm(bottom, ratio.bottom)
    return [ratio.top * (bottom // ratio.bottom) for ratio in ratios], bottom


def combination_fault(system, row, combination):
    """Return None if the rows, each times its ratio, add up to `row`, else what is wrong."""
    if not are_ratios(combination, len(system.rows)):
        return "ratios"
    tops, bottom = over_one_bottom(combination)
    for k, number in enumerate(row):
        if sum([top * other[k] for top, other in zip(tops, system.rows)]) != bottom * number:
            return "sum"
    return None


def numbers_fault(system, row, numbers):
    """Return None if the numbers show that `row` does not follow, else what is wrong with them."""
    if not are_numbers(numbers, system.unknowns):
        return "values"
    if not in_lowest_form(numbers):
        return "lowest"
    if not all([product_sum(other, numbers) == 0 for other in system.rows]):
        return "rows"
    if product_sum(row, numbers) == 0:
        return "row"
    return None


def implied_fault(system, row, told):
    """Return None if what is told of a further row is right, else what is wrong with it."""
    if not is_row(row, system.unknowns):
        raise NoRow(row)
    if isinstance(told, Implied):
        return combination_fault(system, row, told.combination)
    return numbers_fault(system, row, told.numbers)
