"""Shut cards: the layers in which the cells lie when the page is shut."""

from itertools import pairwise

from slitstairs.columns import is_whole
from slitstairs.errors import BadPlace, NoLayer
from slitstairs.views import check_column


def check_layer(card, c, k):
    """Raise NoColumn or NoLayer if the card has no column c or no layer k."""
    check_column(card, c)
    if not is_whole(k, 0, card.size - 1):
        raise NoLayer(k)


def step_layers(column):
    """Return for each step of a column the layer in which its cell lies."""
    return [column.size - max(height, other) for height, other in pairwise(column.heights)]


def layer_counts(column):
    """Return for each layer how many cells of a column lie in it."""
    layers = step_layers(column)
    return tuple([len([layer for layer in layers if layer == k]) for k in range(column.size)])


def first_greatest(rows):
    """Return (number, row, place) of the greatest number in some rows, the first by row and then by place."""
    first = min([(-number, c, k) for c, row in enumerate(rows) for k, number in enumerate(row)])
    return (-first[0], first[1], first[2])


def gutter_distance(card, c, t):
    """Return how far boundary t of column c lies from the gutter."""
    check_column(card, c)
    return card.size - card.columns[c].height(t)


def layer_of(card, c, t):
    """Return the layer in which cell t of column c lies."""
    if not is_whole(c, 0, card.width - 1) or not is_whole(t, 0, 2 * card.size - 1):
        raise BadPlace(c, t)
    return step_layers(card.columns[c])[t]


def layer_steps(card, c, k):
    """Return the steps of the cells of column c that lie in layer k."""
    check_layer(card, c, k)
    return tuple([t for t, layer in enumerate(step_layers(card.columns[c])) if layer == k])


def middle_of(column, t):
    """Return (2x, 2y) for the middle (x, y) of a cell of a column."""
    x, y = column.place(t)
    return (2 * x, 2 * y - 1) if column.word[t] == "d" else (2 * x + 1, 2 * y)


def middles(card, c, k):
    """Return (2x, 2y) for the middle (x, y) of each cell of column c in layer k."""
    return tuple([middle_of(card.columns[c], t) for t in layer_steps(card, c, k)])


def thickness(card, c, k):
    """Return how many cells of column c lie in layer k."""
    return len(layer_steps(card, c, k))


def thickness_row(card, c):
    """Return the thicknesses of column c in all layers."""
    check_column(card, c)
    return layer_counts(card.columns[c])


def thickest(card):
    """Return (number, c, k) of the greatest thickness, at the first column and then the first layer that has it."""
    return first_greatest([layer_counts(column) for column in card])


def touching(card, c, k):
    """Return (step, step, side) for each two cells of column c that touch in layer k, and which sides do."""
    steps = layer_steps(card, c, k)
    word = card.words[c]
    return tuple([(t, other, "print" if word[t] == "d" else "blank") for t, other in pairwise(steps)])
