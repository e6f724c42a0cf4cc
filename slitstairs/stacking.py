"""Stacking: how a single column is pulled out of the plain one, a box with each pull."""

from math import factorial

from slitstairs.columns import Column, is_number, is_sequence
from slitstairs.errors import BadStack


def run_around(word, boundary, step):
    """Return how many steps are in the run that begins at a boundary (step 1) or ends there (step -1)."""
    first = boundary if step == 1 else boundary - 1
    many = 0
    place = first
    while 0 <= place < len(word) and word[place] == word[first]:
        many += 1
        place += step
    return many


def is_pull(thing):
    """Tell whether `thing` is (boundary, downs, outs) with at least one step down and one out."""
    if not is_sequence(thing) or len(thing) != 3:
        return False
    return all([is_number(number) for number in thing]) and thing[1] >= 1 and thing[2] >= 1


def pulled_word(word, boundary, downs, outs):
    """Return the word after a pull that can be made on its column."""
    return word[:boundary - downs] + "o" * outs + "d" * downs + word[boundary + outs:]


def pushed_word(word, boundary, downs, outs):
    """Return the word of which such a pull makes this one."""
    return word[:boundary - downs] + "d" * downs + "o" * outs + word[boundary + outs:]


def stack_fault(column, thing):
    """Return None if this pull can be made on the column, else what is wrong with it."""
    if not is_pull(thing):
        return "pull"
    boundary, downs, outs = thing
    if (boundary, "hollow") not in column.creases:
        return "crease"
    if downs > run_around(column.word, boundary, -1) or outs > run_around(column.word, boundary, 1):
        return "run"
    if downs + outs > column.height(boundary):
        return "boards"
    return None


def pulled_column(column, *pulls):
    """Return the column after these pulls, made one after another."""
    found = column
    for index, thing in enumerate(pulls):
        fault = stack_fault(found, thing)
        if fault is not None:
            raise BadStack(index, fault)
        boundary, downs, outs = thing
        found = Column(pulled_word(found.word, boundary, downs, outs))
    return Column(found.word)


def ridge_boundaries(column):
    """Return the boundaries at which the column has a ridge."""
    return [boundary for boundary, kind in column.creases if kind == "ridge"]


def undone(word, ridge):
    """Return the pull that makes the ridge at this boundary, and the word without that ridge."""
    outs = run_around(word, ridge, -1)
    downs = run_around(word, ridge, 1)
    boundary = ridge - outs + downs
    return (boundary, downs, outs), pushed_word(word, boundary, downs, outs)


def pulls_of(column, order):
    """Return the row of pulls that makes the ridges of a column in this order."""
    ridges = ridge_boundaries(column)
    word = column.word
    pulls = []
    # The other ridges keep their boundaries while one is undone.
    for ridge in order[::-1]:
        pull, word = undone(word, ridges[ridge])
        pulls.append(pull)
    return tuple(pulls[::-1])


def fewest_pulls(column):
    """Return the fewest pulls that make the column, the lowest box first."""
    return pulls_of(column, list(range(column.ridges))[::-1])


def orders_of(numbers):
    """Return all orders of some ascending numbers, ascending as tuples."""
    if not numbers:
        return [()]
    return [
        (number, *order)
        for number in numbers
        for order in orders_of([other for other in numbers if other != number])
    ]


def fewest_rows(column):
    """Yield the row of pulls for each order of the column's ridges."""
    for order in orders_of(list(range(column.ridges))):
        yield pulls_of(column, order)


def how_many_fewest(column):
    """Return how many rows of fewest pulls make the column."""
    return factorial(column.ridges)
