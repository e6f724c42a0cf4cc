"""Thickness rows, and the columns that have them."""

from itertools import pairwise
from math import comb

from slitstairs.allcolumns import all_columns
from slitstairs.columns import MOST_SIZE, is_sequence, is_whole
from slitstairs.errors import BadRow, NoSuch
from slitstairs.shut import layer_counts


def thickness_fault(row):
    """Return None if `row` is the thickness row of a column, else what is wrong with it."""
    if not is_sequence(row) or not 1 <= len(row) <= MOST_SIZE:
        return "row"
    if not all([is_whole(number, 0, 2 * MOST_SIZE) for number in row]):
        return "row"
    if any([number % 2 == 1 for number in row]):
        return "odd"
    if sum(row) != 2 * len(row):
        return "sum"
    if any([number != 0 and behind == 0 for number, behind in pairwise(row)]):
        return "gap"
    return None


def check_row(row):
    """Raise BadRow if `row` is no thickness row."""
    fault = thickness_fault(row)
    if fault is not None:
        raise BadRow(fault)


def how_many_with_row(row):
    """Return how many columns have this thickness row."""
    check_row(row)
    halves = [number // 2 for number in row[::-1] if number != 0]
    total = 1
    for below, above in pairwise(halves):
        # The steps down into a layer stand, in any number, behind any of the steps down of the layer below.
        total *= comb(below + above - 1, above)
    return total


def columns_with_row(row):
    """Yield the columns that have this thickness row, in the order of their words."""
    check_row(row)
    told = tuple(row)
    for column in all_columns(len(told)):
        if layer_counts(column) == told:
            yield column


def column_with_row(row, number):
    """Return the column of a thickness row that has this number."""
    if not is_whole(number, 0, how_many_with_row(row) - 1):
        raise NoSuch(number)
    return list(columns_with_row(row))[number]


def row_index(column):
    """Return the number of a column among those that have its thickness row."""
    row = layer_counts(column)
    words = [other.word for other in columns_with_row(row)]
    return words.index(column.word)
