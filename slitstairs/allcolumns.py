"""All columns of a size, numbered in the order of their words."""

from math import comb

from slitstairs.columns import MOST_SIZE, Column, is_whole
from slitstairs.errors import BadSize, NoSuch


def check_size(size):
    """Raise BadSize if `size` is no size of a column."""
    if not is_whole(size, 1, MOST_SIZE):
        raise BadSize(size)


def ways_home(height, steps):
    """Return how many rows of so many letters lead from a height to 0 and never below it."""
    ups = (steps - height) // 2
    if ups < 0:
        return 0
    if ups == 0:
        return 1
    # A row that falls below 0, turned over as far as it first does so, is a row
    # from -2 - height to 0, and each such row has ups - 1 letters o.
    return comb(steps, ups) - comb(steps, ups - 1)


def how_many_columns(size):
    """Return how many columns of a size there are."""
    check_size(size)
    return ways_home(0, 2 * size)


def all_columns(size):
    """Yield all columns of a size in the order of their words."""
    for number in range(how_many_columns(size)):
        yield column_at(size, number)


def column_index(column):
    """Return the number of a column among those of its size."""
    index = 0
    height = 0
    left = len(column)
    for letter in column:
        left -= 1
        if letter == "o":
            index += ways_home(height + 1, left)
            height -= 1
        else:
            height += 1
    return index


def column_at(size, number):
    """Return the column of a size that has this number."""
    if not is_whole(number, 0, how_many_columns(size) - 1):
        raise NoSuch(number)
    letters = []
    height = 0
    ahead = number
    for left in range(2 * size - 1, -1, -1):
        down_first = ways_home(height + 1, left)
        if ahead < down_first:
            letters.append("d")
            height += 1
        else:
            ahead -= down_first
            letters.append("o")
            height -= 1
    return Column("".join(letters))


def plain_column(size):
    """Return the column that lies on the boards."""
    check_size(size)
    return Column("d" * size + "o" * size)


def steep_column(size):
    """Return the column that goes down and out in turn."""
    check_size(size)
    return Column("do" * size)
