"""Spans: the rates that the motions of a strip give the runs of its last column."""

from slitstairs.books import check_strip
from slitstairs.shapes import Seam, check_next_word, first_equations, how_many_runs
from slitstairs.solving import Reduction, lowest_form, product_sum, solved_rows


def reduced_basis(rows, many):
    """Return the reduced basis of all sums of rows of so many numbers, each times a ratio."""
    return tuple([lowest_form(row) for _, row in sorted(solved_rows(rows, many))])


def factor_row(equation, many):
    """Return the factors of an equation of so many unknowns."""
    return [equation.factor(place) for place in range(many)]


def first_rates(word, letter):
    """Return the pair of a letter of the span of one column."""
    many = how_many_runs(word, letter)
    rows = [factor_row(equation, many) for equation in first_equations(word, letter)]
    return (True, reduced_basis(Reduction(rows, many).solutions(), many))


def rates_after(pair, left, right, letter):
    """Return the pair of a letter when a column is added behind the column `left`."""
    tight, rows = pair
    seam = Seam(left, right, letter)
    # What is solved for: how many times each row of the span ahead is taken, and the rates of the new unknowns.
    taken = [
        [*row, *([0] * (seam.total - seam.old))] for row in rows
    ] + [
        [1 if place == new else 0 for place in range(seam.total)] for new in range(seam.old, seam.total)
    ]
    factors = [factor_row(equation, seam.total) for equation in seam.equations]
    solutions = Reduction([[product_sum(row, other) for other in taken] for row in factors], len(taken)).solutions()
    columns = [[other[place] for other in taken] for place in seam.unknowns]
    basis = reduced_basis(
        [[product_sum(solution, column) for column in columns] for solution in solutions],
        len(seam.unknowns),
    )
    return (tight and len(basis) == len(solutions), basis)


class Span:
    """The last word of a strip and, for each letter, the reduced basis of the rates of its runs."""

    def __init__(self, word, outs, downs):
        self.word = word
        self.outs = outs
        self.downs = downs

    @property
    def opens(self):
        """Whether the strip only opens."""
        return self.outs == (True, ()) and self.downs == (True, ())

    @property
    def is_loose(self):
        """Whether every strip that begins with this one sways."""
        return not (self.outs[0] and self.downs[0])

    def __eq__(self, other):
        return (
            isinstance(other, Span)
            and self.word == other.word
            and self.outs == other.outs
            and self.downs == other.downs
        )


def span_after(span, word):
    """Return the span of a strip of this span with one more column."""
    check_next_word(span.word, word)
    return Span(
        word,
        rates_after(span.outs, span.word, word, "o"),
        rates_after(span.downs, span.word, word, "d"),
    )


def span_of(strip):
    """Return the span of a strip."""
    check_strip(strip)
    span = Span(strip[0], first_rates(strip[0], "o"), first_rates(strip[0], "d"))
    for word in strip[1:]:
        span = span_after(span, word)
    return span
