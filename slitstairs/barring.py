"""Bars: why a wish is granted by no card, shown by one of its columns."""

from slitstairs.columns import is_sequence, is_whole
from slitstairs.wishes import free_moves


class Barred:
    """The result for a column without a granted word: for each boundary the web places that are reached."""

    def __init__(self, column, reached):
        self.column = column
        self.reached = reached

    def __eq__(self, other):
        return isinstance(other, Barred) and self.column == other.column and self.reached == other.reached


def places_led_to(wish, c, places):
    """Return the web places to which moves without a miss lead from some of one boundary, ascending."""
    return tuple(sorted({
        (led_downs, led_outs)
        for downs, outs in places
        for _, led_downs, led_outs in free_moves(wish, c, downs, outs)
    }))


def column_bar(wish, c):
    """Return the web places that are reached in a column, up to the first boundary without one, or to the end."""
    reached = [((0, 0),)]
    while reached[-1] != () and len(reached) <= 2 * wish.size:
        reached.append(places_led_to(wish, c, reached[-1]))
    return tuple(reached)


def bar_of(wish):
    """Return None if each column has a granted word, else Barred for the first one without."""
    for c in range(wish.width):
        reached = column_bar(wish, c)
        if reached[-1] == ():
            return Barred(c, reached)
    return None


def is_web_place(thing, size, boundary):
    """Tell whether `thing` is a web place at a boundary of columns of this size."""
    if not is_sequence(thing) or len(thing) != 2:
        return False
    downs, outs = thing
    return is_whole(downs, 0, size) and is_whole(outs, 0, downs) and downs + outs == boundary


def bar_fault(wish, paper):
    """Return None if the paper shows that its column has no granted word, else what is wrong with it."""
    if not is_whole(paper.column, 0, wish.width - 1):
        return "column"
    if not 2 <= len(paper.reached) <= 2 * wish.size + 1:
        return "rows"
    for boundary, entry in enumerate(paper.reached):
        if not all([is_web_place(thing, wish.size, boundary) for thing in entry]):
            return "place"
    reached = [[tuple(place) for place in entry] for entry in paper.reached]
    if (0, 0) not in reached[0]:
        return "start"
    for k in range(len(reached) - 1):
        led = places_led_to(wish, paper.column, reached[k])
        if not all([place in reached[k + 1] for place in led]):
            return "move"
    return "end" if reached[-1] else None
