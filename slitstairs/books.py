"""Books: finite machines that write strips, rows of column words of one size."""

from slitstairs.columns import is_sequence, is_whole, word_fault
from slitstairs.errors import BadBook, BadStrip, BadWidth, NoSuch

MOST_STRIP_SIZE = 4
MOST_ROOMS = 4
MOST_ARROWS = 24


def check_strip_word(index, thing):
    """Raise BadStrip if `thing` is no word of a strip."""
    if word_fault(thing) is not None or len(thing) > 2 * MOST_STRIP_SIZE:
        raise BadStrip(index, "word")


def check_strip(thing):
    """Raise BadStrip if `thing` is no strip."""
    if not is_sequence(thing) or len(thing) == 0:
        raise BadStrip(0, "strip")
    for index, word in enumerate(thing):
        check_strip_word(index, word)
        if len(word) != len(thing[0]):
            raise BadStrip(index, "size")


def arrow_of(thing, size, rooms):
    """Return `thing` as the triple of an arrow, or None if a book of this size has no such arrow."""
    if not is_sequence(thing) or len(thing) != 3:
        return None
    first, word, last = thing
    if not is_whole(first, 0, rooms - 1) or not is_whole(last, 0, rooms - 1):
        return None
    return (first, word, last) if is_word_of(word, size) else None


def is_word_of(thing, size):
    """Tell whether `thing` is the word of a column of this size."""
    return word_fault(thing) is None and len(thing) == 2 * size


def checked_arrows(arrows, size, rooms):
    """Return the arrows as triples, or raise BadBook for the first one that is refused."""
    found = []
    for index, thing in enumerate(arrows):
        arrow = arrow_of(thing, size, rooms)
        if arrow is None:
            raise BadBook(index, "arrow")
        if arrow in found:
            raise BadBook(index, "double")
        found.append(arrow)
    return found


def checked_ends(ends, rooms):
    """Return the ends as a list, or raise BadBook for what is refused."""
    if not is_sequence(ends):
        raise BadBook(0, "ends")
    found = []
    for index, room in enumerate(ends):
        if not is_whole(room, 0, rooms - 1):
            raise BadBook(index, "end")
        if room in found:
            raise BadBook(index, "twice")
        found.append(room)
    return found


class Book:
    """A book: its arrows (room, word, room) write strips, from the room `start` to a room in `ends`."""

    MOST_WIDTH = 60

    def __init__(self, size, rooms, start, arrows, ends):
        if not is_whole(size, 1, MOST_STRIP_SIZE):
            raise BadBook(0, "size")
        if not is_whole(rooms, 1, MOST_ROOMS):
            raise BadBook(0, "rooms")
        if not is_whole(start, 0, rooms - 1):
            raise BadBook(0, "start")
        if not is_sequence(arrows) or len(arrows) > MOST_ARROWS:
            raise BadBook(0, "arrows")
        self.size = size
        self.rooms = rooms
        self.start = start
        self.arrows = tuple(sorted(checked_arrows(arrows, size, rooms)))
        self.ends = tuple(sorted(checked_ends(ends, rooms)))
        self.words = tuple(sorted({word for _, word, _ in self.arrows}))

    @classmethod
    def of_strip(cls, *words):
        """Return the book that writes the strip of these one to three words alone."""
        if len(words) > 3:
            raise BadStrip(3, "strip")
        check_strip(words)
        many = len(words)
        return cls(len(words[0]) // 2, many + 1, 0, [(k, word, k + 1) for k, word in enumerate(words)], [many])

    @classmethod
    def of_any(cls, *words):
        """Return the book that writes every strip of these words."""
        check_strip(words)
        return cls(len(words[0]) // 2, 1, 0, [(0, word, 0) for word in sorted(set(words))], [0])

    def writes(self, strip):
        """Tell whether the book writes a strip; it writes nothing that is none."""
        if not is_sequence(strip) or len(strip) == 0:
            return False
        rooms = (self.start,)
        for word in strip:
            if not isinstance(word, str):
                return False
            rooms = rooms_after(self, rooms, word)
        return has_end(self, rooms)

    def reads(self, card):
        """Tell whether the book writes the words of a card without marks."""
        return not card.marks and self.writes(card.words)

    def how_many(self, width):
        """Return how many strips of this width the book writes."""
        check_book_width(width)
        return StripCounts(self, width).all_strips()

    def strips(self, width):
        """Yield the strips of this width that the book writes, ascending."""
        check_book_width(width)
        counts = StripCounts(self, width)
        for number in range(counts.all_strips()):
            yield counts.strip_of(number)

    def strip_at(self, width, number):
        """Return the strip of this width that has this number."""
        check_book_width(width)
        counts = StripCounts(self, width)
        if not is_whole(number, 0, counts.all_strips() - 1):
            raise NoSuch(number)
        return counts.strip_of(number)

    def number_of(self, strip):
        """Return the number of a strip among those of its width, or None if the book does not write it."""
        if not self.writes(strip):
            return None
        return StripCounts(self, len(strip)).number_for(strip)

    def earliest(self):
        """Return the earliest strip that the book writes, or None."""
        return earliest_by(BookReader(self))

    def __eq__(self, other):
        return (
            isinstance(other, Book)
            and self.size == other.size
            and self.rooms == other.rooms
            and self.start == other.start
            and self.arrows == other.arrows
            and self.ends == other.ends
        )

    def __len__(self):
        return len(self.arrows)

    def __iter__(self):
        return iter(self.arrows)


def check_book_width(width):
    """Raise BadWidth if `width` is none that books count strips of."""
    if not is_whole(width, 1, Book.MOST_WIDTH):
        raise BadWidth(width)


def rooms_after(book, rooms, word):
    """Return the rooms to which arrows with this word lead from a lot of rooms, ascending."""
    return tuple(sorted({last for first, told, last in book.arrows if told == word and first in rooms}))


def has_end(book, rooms):
    """Tell whether a lot of rooms has an end of the book."""
    return any([room in book.ends for room in rooms])


class BookReader:
    """Reads strips: a state is the lot of all rooms to which a strip leads, so it is one for each strip."""

    def __init__(self, book):
        self.book = book
        self.words = book.words
        self.first = (book.start,)

    def after(self, rooms, word):
        """Return the state to which a word leads."""
        return rooms_after(self.book, rooms, word)

    def is_good(self, rooms):
        """Tell whether the book writes the strips that lead to a state."""
        return has_end(self.book, rooms)


class PairReader:
    """Reads strips in two books: a state is the pair of both lots of rooms."""

    def __init__(self, one, other):
        self.one = one
        self.other = other
        self.words = tuple(sorted({word for word in [*one.words, *other.words]}))
        self.first = ((one.start,), (other.start,))

    def after(self, pair, word):
        """Return the state to which a word leads."""
        return (rooms_after(self.one, pair[0], word), rooms_after(self.other, pair[1], word))

    def is_good(self, pair):
        """Tell whether just one of the books writes the strips that lead to a state."""
        return has_end(self.one, pair[0]) != has_end(self.other, pair[1])


def earliest_by(reader):
    """Return the earliest strip that leads a reader from its first state to a good one, or None."""
    # States are reached in the order of the earliest strips that lead to them, and
    # the earliest strip to a state goes through such strips alone.
    found = {reader.first: ()}
    waiting = [reader.first]
    done = 0
    while done < len(waiting):
        state = waiting[done]
        done += 1
        for word in reader.words:
            strip = (*found[state], word)
            led = reader.after(state, word)
            if reader.is_good(led):
                return strip
            if led not in found:
                found[led] = strip
                waiting.append(led)
    return None


def parting_strip(one, other):
    """Return the earliest strip that just one of two books writes, or None if both write the same strips."""
    return earliest_by(PairReader(one, other))


class StripCounts:
    """How many strips a book writes from each lot of rooms on, for all widths up to the greatest one."""

    def __init__(self, book, width):
        self.book = book
        self.width = width
        self.led = {}
        lots = [(book.start,)]
        done = 0
        while done < len(lots):
            rooms = lots[done]
            done += 1
            self.led[rooms] = {word: rooms_after(book, rooms, word) for word in book.words}
            for led in list(self.led[rooms].values()):
                if led not in lots:
                    lots.append(led)
        self.counted = [{lot: 1 if has_end(book, lot) else 0 for lot in lots}]
        for left in range(width):
            ahead = self.counted[left]
            self.counted.append({lot: sum([ahead[other] for other in list(self.led[lot].values())]) for lot in lots})

    def all_strips(self):
        """Return how many strips of the width the book writes."""
        return self.counted[self.width][(self.book.start,)]

    def ways(self, rooms, word, left):
        """Return how many strips the book writes from a lot of rooms on with this word and so many more."""
        return self.counted[left][self.led[rooms][word]]

    def strip_of(self, number):
        """Return the strip that has this number."""
        strip = []
        rooms = (self.book.start,)
        rest = number
        for left in range(self.width - 1, -1, -1):
            at = 0
            while rest >= self.ways(rooms, self.book.words[at], left):
                rest -= self.ways(rooms, self.book.words[at], left)
                at += 1
            strip.append(self.book.words[at])
            rooms = self.led[rooms][self.book.words[at]]
        return tuple(strip)

    def number_for(self, strip):
        """Return how many strips the book writes of this width ahead of one that it writes."""
        number = 0
        rooms = (self.book.start,)
        for at, word in enumerate(strip):
            left = self.width - 1 - at
            number += sum([self.ways(rooms, other, left) for other in self.book.words if other < word])
            rooms = self.led[rooms][word]
        return number
