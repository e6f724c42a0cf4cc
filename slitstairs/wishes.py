"""Wishes: what a card with a given print is to show from the front and from above."""

from slitstairs.cards import Card
from slitstairs.columns import is_number, is_sequence, is_whole
from slitstairs.errors import BadWish, NoWishPlace, UnlikeWish, WishesClash
from slitstairs.prints import Print


def are_views(thing):
    """Tell whether `thing` is a sequence of sequences of whole numbers and None."""
    if not is_sequence(thing) or not all([is_sequence(row) for row in thing]):
        return False
    return all([entry is None or is_number(entry) for row in thing for entry in row])


def check_views(printed, front, top):
    """Raise BadWish if these are not the print and the views of a wish."""
    if not isinstance(printed, Print):
        raise BadWish("print")
    if not are_views(front):
        raise BadWish("front")
    if not are_views(top):
        raise BadWish("top")
    if len(front) != printed.width or len(top) != printed.width:
        raise BadWish("width")
    if not all([len(row) == printed.size for row in [*front, *top]]):
        raise BadWish("size")


def word_moves(word):
    """Return (letter, downs, outs) for each cell of a word: its letter and how many letters are ahead of it."""
    found = []
    downs = 0
    outs = 0
    for letter in word:
        found.append((letter, downs, outs))
        if letter == "d":
            downs += 1
        else:
            outs += 1
    return found


def move_misses(wish, c, move):
    """Tell whether a cell misses in a column of the wish."""
    letter, downs, outs = move
    entry = wish.front[c][downs] if letter == "d" else wish.top[c][outs]
    return entry is not None and entry != wish.printed.inks[c][downs + outs]


def free_moves(wish, c, downs, outs):
    """Return (letter, downs, outs) for each move without a miss behind so many letters: the letter that it
    adds, and how many letters there are then."""
    found = []
    if downs < wish.size and not move_misses(wish, c, ("d", downs, outs)):
        found.append(("d", downs + 1, outs))
    if outs < downs and not move_misses(wish, c, ("o", downs, outs)):
        found.append(("o", downs, outs + 1))
    return found


def missing_moves(wish, c, word):
    """Return (letter, downs, outs) for each cell of a word that misses in a column of the wish."""
    return [move for move in word_moves(word) if move_misses(wish, c, move)]


def checked_place(wish, thing):
    """Return `thing` as the tuple of a wished place, or raise NoWishPlace."""
    if not is_sequence(thing) or len(thing) != 3:
        raise NoWishPlace(thing)
    view, c, entry = thing
    if not isinstance(view, str) or view not in ("front", "top"):
        raise NoWishPlace(thing)
    if not is_whole(c, 0, wish.width - 1) or not is_whole(entry, 0, wish.size - 1):
        raise NoWishPlace(thing)
    return (view, c, entry)


def wished_views(wish):
    """Return (view, rows) for both views of a wish."""
    return (("front", wish.front), ("top", wish.top))


def clash_of(one, other):
    """Return the first wished place with two unlike whole numbers, or None."""
    others = (other.front, other.top)
    for (view, rows), asked in zip(wished_views(one), others):
        for c, row in enumerate(rows):
            for k, entry in enumerate(row):
                if entry is not None and asked[c][k] is not None and entry != asked[c][k]:
                    return (view, c, k)
    return None


def both_asked(rows, others):
    """Return the rows, with the entries of the others where they have None."""
    return [
        [asked if entry is None else entry for entry, asked in zip(row, others[c])]
        for c, row in enumerate(rows)
    ]


class Wish:
    """A wish: the entries of `front` and `top` are the wished inks of each column, None for any ink."""

    def __init__(self, printed, front, top):
        check_views(printed, front, top)
        self.printed = printed
        self.front = tuple([tuple(row) for row in front])
        self.top = tuple([tuple(row) for row in top])
        self.size = printed.size
        self.width = printed.width

    def mirrored(self):
        """Return the wish with wall and floor exchanged."""
        front = [row[::-1] for row in self.top]
        return Wish(self.printed.mirrored(), front, [row[::-1] for row in self.front])

    def turned(self):
        """Return the wish with its columns in reverse order."""
        return Wish(self.printed.turned(), self.front[::-1], self.top[::-1])

    def loosened(self, *places):
        """Return the wish with None at these wished places."""
        rows = {view: [list(row) for row in told] for view, told in wished_views(self)}
        for thing in places:
            view, c, entry = checked_place(self, thing)
            rows[view][c][entry] = None
        return Wish(self.printed, rows["front"], rows["top"])

    def __contains__(self, thing):
        if not isinstance(thing, Card) or thing.size != self.size or thing.width != self.width:
            return False
        return all([missing_moves(self, c, word) == [] for c, word in enumerate(thing.words)])

    def __and__(self, other):
        if other.size != self.size:
            raise UnlikeWish("size")
        if other.width != self.width:
            raise UnlikeWish("width")
        if other.printed != self.printed:
            raise UnlikeWish("print")
        place = clash_of(self, other)
        if place is not None:
            raise WishesClash(place)
        return Wish(self.printed, both_asked(self.front, other.front), both_asked(self.top, other.top))

    def __eq__(self, other):
        return (
            isinstance(other, Wish)
            and self.printed == other.printed
            and self.front == other.front
            and self.top == other.top
        )


def missed_places(wish, card):
    """Return the wished places whose cells miss, by column, then by step."""
    if card.size != wish.size:
        raise UnlikeWish("size")
    if card.width != wish.width:
        raise UnlikeWish("width")
    return tuple([
        ("front", c, downs) if letter == "d" else ("top", c, outs)
        for c, word in enumerate(card.words)
        for letter, downs, outs in missing_moves(wish, c, word)
    ])
