"""The errors of the package, all under CardError.

Each one keeps what it is created with under the names of its parameters.
Python shows these values as its message, so none is passed on to ValueError.
"""


class CardError(ValueError):
    """What every error of the package is."""


class NoColumn(CardError):
    """No column has this number."""
    def __init__(self, column):
        self.column = column


class NoSuch(CardError):
    """Of several numbered things, none has this number."""
    def __init__(self, number):
        self.number = number


class BadSize(CardError):
    """No size of a column."""
    def __init__(self, size):
        self.size = size


class BadColumn(CardError):
    """No word of a column."""
    def __init__(self, what):
        self.what = what


class BadBoundary(CardError):
    """No boundary of the column."""
    def __init__(self, boundary):
        self.boundary = boundary


class BadHeights(CardError):
    """No heights of a column."""
    def __init__(self, index, what):
        self.index = index
        self.what = what


class BadText(CardError):
    """No text of a card; rows count from 1."""
    def __init__(self, row, what):
        self.row = row
        self.what = what


class BadCard(CardError):
    """No columns or no marks of a card."""
    def __init__(self, index, what):
        self.index = index
        self.what = what


class BadPlace(CardError):
    """The card has no such cell."""
    def __init__(self, column, step):
        self.column = column
        self.step = step


class BadWidth(CardError):
    """No width of a card."""
    def __init__(self, width):
        self.width = width


class NoPanel(CardError):
    """No panel of the card has this number."""
    def __init__(self, number):
        self.number = number


class BadNest(CardError):
    """No cards that can be compared."""
    def __init__(self, index, what):
        self.index = index
        self.what = what


class NotBehind(CardError):
    """The first card does not lie behind the second one."""
    def __init__(self, column, boundary):
        self.column = column
        self.boundary = boundary


class NotBetween(CardError):
    """The card does not lie between the two others."""
    def __init__(self, column, boundary):
        self.column = column
        self.boundary = boundary


class BadStack(CardError):
    """No pull that can be made on the column."""
    def __init__(self, index, what):
        self.index = index
        self.what = what


class BadRatio(CardError):
    """No numbers of a ratio."""
    def __init__(self, what):
        self.what = what


class NoRatio(CardError):
    """A ratio is divided by zero."""


class BadSystem(CardError):
    """No system of equations."""
    def __init__(self, index, what):
        self.index = index
        self.what = what


class NoRow(CardError):
    """No row of the system."""
    def __init__(self, row):
        self.row = row


class NotGeared(CardError):
    """The two panels cannot be compared."""
    def __init__(self, one, other, what):
        self.one = one
        self.other = other
        self.what = what


class BadKnown(CardError):
    """No lot of panels."""
    def __init__(self, index, what):
        self.index = index
        self.what = what


class NotFollowing(CardError):
    """Some panels do not become known."""
    def __init__(self, rest):
        self.rest = rest


class TooManyPanels(CardError):
    """The letter has more panels than lots are made of."""
    def __init__(self, count):
        self.count = count


class BadRates(CardError):
    """No rates of the panels."""
    def __init__(self, index, what):
        self.index = index
        self.what = what


class BadHold(CardError):
    """The panel cannot be held, or not be let go."""
    def __init__(self, panel, what):
        self.panel = panel
        self.what = what


class BadPrint(CardError):
    """No inks of a print."""
    def __init__(self, index, what):
        self.index = index
        self.what = what


class BadView(CardError):
    """No view, or one of things that do not fit."""
    def __init__(self, what):
        self.what = what


class BadSlope(CardError):
    """No slope to look from."""
    def __init__(self, what):
        self.what = what


class BadSide(CardError):
    """No side view of a card."""
    def __init__(self, index, what):
        self.index = index
        self.what = what


class BadWish(CardError):
    """No print or no views of a wish."""
    def __init__(self, what):
        self.what = what


class NoWord(CardError):
    """The wish grants no word in this column."""
    def __init__(self, column):
        self.column = column


class NotGranted(CardError):
    """The wish does not grant this."""
    def __init__(self, thing):
        self.thing = thing


class UnlikeWish(CardError):
    """The wish is for other cards."""
    def __init__(self, what):
        self.what = what


class NoWishPlace(CardError):
    """No wished place."""
    def __init__(self, place):
        self.place = place


class WishesClash(CardError):
    """Two wishes ask for unlike inks at this place."""
    def __init__(self, place):
        self.place = place


class BadMost(CardError):
    """No greatest number of cards to look at."""
    def __init__(self, most):
        self.most = most


class TooManySway(CardError):
    """More cards sway than may be looked at."""
    def __init__(self, most):
        self.most = most


class NoLayer(CardError):
    """No layer of the shut card."""
    def __init__(self, layer):
        self.layer = layer


class BadRow(CardError):
    """No thickness row of a column."""
    def __init__(self, what):
        self.what = what


class BadPages(CardError):
    """No cards, no order or no lot of a shut book."""
    def __init__(self, index, what):
        self.index = index
        self.what = what


class BadPull(CardError):
    """No pull, or one that is not let."""
    def __init__(self, what):
        self.what = what


class BadStudio(CardError):
    """No card to begin with."""
    def __init__(self, what):
        self.what = what


class Rests(CardError):
    """Another pull rests on this one."""
    def __init__(self, number, by):
        self.number = number
        self.by = by


class BadTable(CardError):
    """No table of what rests on what."""
    def __init__(self, index, what):
        self.index = index
        self.what = what


class BadOrder(CardError):
    """No order of the table's numbers."""
    def __init__(self, index, what):
        self.index = index
        self.what = what


class TooEarly(CardError):
    """A number comes ahead of one on which it rests."""
    def __init__(self, index, on):
        self.index = index
        self.on = on


class BadLot(CardError):
    """No lot of pulls, or one that is not closed."""
    def __init__(self, what):
        self.what = what


class NotBraced(CardError):
    """The pull is not braced."""
    def __init__(self, what):
        self.what = what


class BadStrip(CardError):
    """No strip of words."""
    def __init__(self, index, what):
        self.index = index
        self.what = what


class BadBook(CardError):
    """No book of strips."""
    def __init__(self, index, what):
        self.index = index
        self.what = what


class BadVerdict(CardError):
    """No verdict on a strip."""
    def __init__(self, verdict):
        self.verdict = verdict


class BadChange(CardError):
    """No change of the book."""
    def __init__(self, index, what):
        self.index = index
        self.what = what


class BadPool(CardError):
    """No pool of changes."""
    def __init__(self, index, what):
        self.index = index
        self.what = what
