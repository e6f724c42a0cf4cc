"""Tallies: the least strip, the greatest width and the number of the strips of a book with a verdict."""

from slitstairs.books import check_book_width, earliest_by, has_end, rooms_after
from slitstairs.shapes import shape_after, shape_of
from slitstairs.spans import span_after, span_of
from slitstairs.verdicts import asks_following, asks_opening, check_verdict, verdict_by


class Marker:
    """Numbers what a verdict needs to know of strips: number 0 is that of no words at all.

    Of a strip it keeps the shape and the span, and None in place of one that the
    verdict does not hang on, or of one that cannot become better. What a word makes
    of a number is worked out once.
    """

    def __init__(self, verdict):
        self.verdict = verdict
        self.shapes = [None]
        self.spans = [None]
        self.numbers = {}
        self.led = {}

    def number_after(self, number, word):
        """Return the number of a strip of this number with one more word."""
        if (number, word) not in self.led:
            self.led[(number, word)] = self.numbered(self.next_shape(number, word), self.next_span(number, word))
        return self.led[(number, word)]

    def next_shape(self, number, word):
        """Return the shape that a word makes of the one of a number, or None."""
        if not asks_following(self.verdict) or number > 0 and self.shapes[number] is None:
            return None
        shape = shape_of((word,)) if number == 0 else shape_after(self.shapes[number], word)
        return None if shape.is_lost else shape

    def next_span(self, number, word):
        """Return the span that a word makes of the one of a number, or None."""
        if not asks_opening(self.verdict) or number > 0 and self.spans[number] is None:
            return None
        span = span_of((word,)) if number == 0 else span_after(self.spans[number], word)
        return None if span.is_loose else span

    def numbered(self, shape, span):
        """Return the number of a shape and a span."""
        shape_key = None if shape is None else (shape.word, shape.outs, shape.downs)
        span_key = None if span is None else (span.word, span.outs, span.downs)
        if (shape_key, span_key) not in self.numbers:
            self.numbers[(shape_key, span_key)] = len(self.shapes)
            self.shapes.append(shape)
            self.spans.append(span)
        return self.numbers[(shape_key, span_key)]

    def has_verdict_at(self, number):
        """Tell whether the strips of a number, not 0, have the verdict."""
        shape = self.shapes[number]
        span = self.spans[number]
        return verdict_by(self.verdict, shape is not None and shape.follows, span is not None and span.opens)


class VerdictReader:
    """Reads strips of a book: a state is the lot of rooms and the number of the marker to which a strip leads.

    It is good if the book writes such a strip and the strip has the verdict, or,
    where `wanted` is False, has it not.
    """

    def __init__(self, book, marker, wanted):
        self.book = book
        self.marker = marker
        self.wanted = wanted
        self.words = book.words
        self.first = ((book.start,), 0)

    def after(self, state, word):
        """Return the state to which a word leads."""
        return (rooms_after(self.book, state[0], word), self.marker.number_after(state[1], word))

    def is_good(self, state):
        """Tell whether a state is good."""
        return has_end(self.book, state[0]) and self.marker.has_verdict_at(state[1]) == self.wanted


def state_steps(reader):
    """Return for each state of a reader, the first one ahead, the states to which its words lead, one for each."""
    found = {}
    waiting = [reader.first]
    while waiting:
        state = waiting.pop()
        if state not in found:
            found[state] = [reader.after(state, word) for word in reader.words]
            waiting.extend(list(found[state]))
    return found


def leading_states(steps, good):
    """Return the states from which some row of words, or none, leads to a good state."""
    ahead = {state: [] for state in steps}
    for state, nexts in steps.items():
        for led in nexts:
            ahead[led].append(state)
    found = {}
    waiting = list(good)
    while waiting:
        state = waiting.pop()
        if state not in found:
            found[state] = True
            waiting.extend(list(ahead[state]))
    return found


def longest_way(steps, first, good):
    """Return the greatest number of words that lead from the first state to a good one, 0 if none
    leads there, None if there is no greatest number."""
    leading = leading_states(steps, good)
    if first not in leading:
        return 0
    ways = {state: [other for other in steps[state] if other in leading] for state in leading}
    # How many words lead to a state from states that have not had their turn.
    before = {state: 0 for state in leading}
    for nexts in list(ways.values()):
        for led in nexts:
            before[led] += 1
    widths = {first: 0}
    waiting = [first]
    turns = 0
    while waiting:
        state = waiting.pop()
        turns += 1
        for led in ways[state]:
            widths[led] = max(widths.get(led, 0), widths[state] + 1)
            before[led] -= 1
            if before[led] == 0:
                waiting.append(led)
    # A state that has had no turn can be come back to, and so without end.
    return max(list(widths.values())) if turns == len(leading) else None


def least_strip(book, verdict):
    """Return the earliest strip with a verdict that the book writes, or None."""
    check_verdict(verdict)
    return earliest_by(VerdictReader(book, Marker(verdict), True))


def greatest_width(book, verdict):
    """Return the greatest width of a strip with a verdict that the book writes, 0 if there is none,
    None if there are such strips above every width."""
    check_verdict(verdict)
    reader = VerdictReader(book, Marker(verdict), True)
    steps = state_steps(reader)
    good = [state for state in steps if state != reader.first and reader.is_good(state)]
    return longest_way(steps, reader.first, good)


def counts_after(counts, steps):
    """Return how many strips lead to each state by one word more than the counted ones have."""
    found = {}
    for state, many in counts.items():
        for led in steps[state]:
            found[led] = found.get(led, 0) + many
    return found


def how_many_with(book, width, verdict):
    """Return how many strips of this width with a verdict the book writes."""
    check_verdict(verdict)
    check_book_width(width)
    reader = VerdictReader(book, Marker(verdict), True)
    steps = state_steps(reader)
    counts = {reader.first: 1}
    for _ in range(width):
        counts = counts_after(counts, steps)
    return sum([many for state, many in counts.items() if reader.is_good(state)])
