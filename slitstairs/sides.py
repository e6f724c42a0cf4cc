"""Side views: how many cells of a card begin at each place, and which tables of such numbers are sides of cards."""

from slitstairs.allcolumns import check_size
from slitstairs.cards import MOST_WIDTH, Card
from slitstairs.columns import is_number, is_sequence, is_whole
from slitstairs.errors import BadSide


def side_view(card):
    """Return (x, y, letter, many) for each place and letter: how many columns have such a cell that begins there."""
    counts = {}
    for column in card:
        for letter, place in zip(column.word, column.places):
            cell = (place[0], place[1], letter)
            counts[cell] = counts.get(cell, 0) + 1
    return tuple([(x, y, letter, counts[(x, y, letter)]) for x, y, letter in sorted(counts)])


def is_side_row(thing):
    """Tell whether `thing` is a sequence of two whole numbers, a letter and a whole number."""
    if not is_sequence(thing) or len(thing) != 4:
        return False
    x, y, letter, many = thing
    if not isinstance(letter, str) or letter not in ("d", "o"):
        return False
    return is_number(x) and is_number(y) and is_number(many)


def has_cell(size, x, y, letter):
    """Tell whether some column of a size has a cell of this letter that begins at this place."""
    if x < 0 or y < 0 or x + y > size:
        return False
    return y > 0 if letter == "d" else x + y < size


def row_fault(size, rows, index):
    """Return what is wrong with a row of a table, or None; the rows ahead of it are right."""
    if not is_side_row(rows[index]):
        return "row"
    x, y, letter, many = rows[index]
    if not has_cell(size, x, y, letter):
        return "place"
    if not is_whole(many, 1, MOST_WIDTH):
        return "many"
    if index > 0 and (x, y, letter) <= tuple(rows[index - 1][:3]):
        return "order"
    return None


def cell_ends(x, y, letter):
    """Return the places at which a cell begins and ends."""
    return ((x, y), (x, y - 1) if letter == "d" else (x + 1, y))


def unbalanced(size, rows):
    """Return the index of the first row that begins or ends at a place between the boards at which not as many
    cells end as begin, or None."""
    flow = {}
    for x, y, letter, many in rows:
        first, last = cell_ends(x, y, letter)
        flow[first] = flow.get(first, 0) + many
        flow[last] = flow.get(last, 0) - many
    flow[(0, size)] = 0
    flow[(size, 0)] = 0
    for index, (x, y, letter, _) in enumerate(rows):
        first, last = cell_ends(x, y, letter)
        if flow[first] != 0 or flow[last] != 0:
            return index
    return None


def side_fault(size, rows):
    """Return None if some card of this size has this side view, else the index of a row and what is wrong there."""
    check_size(size)
    if not is_sequence(rows) or len(rows) == 0:
        return (0, "rows")
    for index in range(len(rows)):
        fault = row_fault(size, rows, index)
        if fault is not None:
            return (index, fault)
    index = unbalanced(size, rows)
    return None if index is None else (index, "flow")


def taken_word(size, left):
    """Return the first word whose cells all are left, and take these out of what is left."""
    word = ""
    x, y = 0, size
    while (x, y) != (size, 0):
        # As many cells begin here as end here, so that one letter or the other goes on.
        letter = "d" if left.get((x, y, "d"), 0) > 0 else "o"
        left[(x, y, letter)] -= 1
        word = word + letter
        _, (x, y) = cell_ends(x, y, letter)
    return word


def card_of_side(size, rows):
    """Return the first card that has this side view."""
    fault = side_fault(size, rows)
    if fault is not None:
        raise BadSide(fault[0], fault[1])
    left = {(x, y, letter): many for x, y, letter, many in rows}
    words = []
    while left[(0, size, "d")] > 0:
        words.append(taken_word(size, left))
    return Card.of_words(*words)
