"""Whether every strip of a book follows, and whether every one only opens, for all widths."""

from slitstairs.books import rooms_after
from slitstairs.shapes import shape_after, shape_of
from slitstairs.spans import span_after, span_of
from slitstairs.tallies import least_strip


class AllFollow:
    """The result if every strip follows: the pairs (room, shape) to which the strips lead."""

    def __init__(self, pairs):
        self.pairs = pairs

    def __eq__(self, other):
        return isinstance(other, AllFollow) and self.pairs == other.pairs

    def __len__(self):
        return len(self.pairs)

    def __iter__(self):
        return iter(self.pairs)


class AllOpen:
    """The result if every strip only opens: the pairs (room, span) to which the strips lead."""

    def __init__(self, pairs):
        self.pairs = pairs

    def __eq__(self, other):
        return isinstance(other, AllOpen) and self.pairs == other.pairs

    def __len__(self):
        return len(self.pairs)

    def __iter__(self):
        return iter(self.pairs)


class SomeCard:
    """The result if some strip does not: the earliest one that the book writes."""

    def __init__(self, strip):
        self.strip = strip

    def __eq__(self, other):
        return isinstance(other, SomeCard) and self.strip == other.strip


def pair_key(room, state):
    """Return a pair of a room and a shape or span as a key."""
    return (room, state.word, state.outs, state.downs)


def led_pairs(book, make, lead):
    """Return the pairs of a room and a shape or span to which the book's arrows lead, in the order of the
    earliest strips; `make` makes a shape or span of a strip, `lead` leads it on by a word."""
    found = []
    seen = {}
    # The rooms that some strip is the earliest to lead to with what is made of it. Other
    # rooms need not be gone on from: what comes of them has come of an earlier strip.
    waiting = [(None, (book.start,))]
    done = 0
    while done < len(waiting):
        state, rooms = waiting[done]
        done += 1
        for word in book.words:
            led_rooms = rooms_after(book, rooms, word)
            if led_rooms:
                led = make((word,)) if state is None else lead(state, word)
                fresh = [room for room in led_rooms if pair_key(room, led) not in seen]
                for room in fresh:
                    seen[pair_key(room, led)] = True
                    found.append((room, led))
                if fresh:
                    waiting.append((led, fresh))
    return tuple(found)


def all_follow(book):
    """Return AllFollow if every strip that the book writes follows, else the earliest one that is stuck."""
    strip = least_strip(book, "stuck")
    return AllFollow(led_pairs(book, shape_of, shape_after)) if strip is None else SomeCard(strip)


def all_open(book):
    """Return AllOpen if every strip that the book writes only opens, else the earliest one that sways."""
    strip = least_strip(book, "sways")
    return AllOpen(led_pairs(book, span_of, span_after)) if strip is None else SomeCard(strip)


def pairs_fault(book, pairs, make, lead):
    """Return None if the book's arrows lead to pairs of these and nowhere else, else what is wrong."""
    seen = {pair_key(room, state): True for room, state in pairs}
    for first, word, last in book.arrows:
        if first == book.start and pair_key(last, make((word,))) not in seen:
            return "start"
    for room, state in pairs:
        for first, word, last in book.arrows:
            if first == room and pair_key(last, lead(state, word)) not in seen:
                return "arrow"
    return None


def closing_fault(book, told):
    """Return None if what is told of the book's strips is right, else what is wrong with it."""
    if isinstance(told, SomeCard):
        if not book.writes(told.strip):
            return "book"
        return "fine" if shape_of(told.strip).follows and span_of(told.strip).opens else None
    if isinstance(told, AllFollow):
        fault = pairs_fault(book, told.pairs, shape_of, shape_after)
        ends = [state.follows for room, state in told.pairs if room in book.ends]
    else:
        fault = pairs_fault(book, told.pairs, span_of, span_after)
        ends = [state.opens for room, state in told.pairs if room in book.ends]
    if fault is not None:
        return fault
    return None if all(ends) else "end"
