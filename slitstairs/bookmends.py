"""Mends: changes of a book after which every strip that it writes has a verdict."""

from slitstairs.books import Book, earliest_by, is_word_of
from slitstairs.columns import is_sequence, is_whole
from slitstairs.errors import BadChange, BadPool
from slitstairs.tallies import Marker, VerdictReader
from slitstairs.verdicts import check_verdict

MOST_POOL = 5


def change_of(book, thing):
    """Return `thing` as the tuple of a change of the book, or None if it is none."""
    if not is_sequence(thing) or not 2 <= len(thing) <= 3 or not isinstance(thing[0], str):
        return None
    change = tuple(thing)
    number = change[1]
    if change[0] == "word" and len(change) == 3:
        fits = is_whole(number, 0, len(book) - 1) and is_word_of(change[2], book.size)
    elif change[0] == "drop" and len(change) == 2:
        fits = is_whole(number, 0, len(book) - 1)
    elif change[0] == "end" and len(change) == 2:
        fits = is_whole(number, 0, book.rooms - 1) and number in book.ends
    else:
        fits = False
    return change if fits else None


def target_of(change):
    """Return what a change changes: an end, or an arrow."""
    return ("end" if change[0] == "end" else "arrow", change[1])


def clashes(changes):
    """Return the index of the first change that changes what one ahead of it changes, or None."""
    targets = [target_of(change) for change in changes]
    for index, target in enumerate(targets):
        if target in targets[:index]:
            return index
    return None


def checked_changes(book, changes):
    """Return the changes as tuples, or raise BadChange for the first one that is refused."""
    if not is_sequence(changes):
        raise BadChange(0, "changes")
    found = []
    for index, thing in enumerate(changes):
        change = change_of(book, thing)
        if change is None:
            raise BadChange(index, "change")
        found.append(change)
        if clashes(found) is not None:
            raise BadChange(index, "again")
    return found


def book_after(book, changes):
    """Return the book after changes of which no two change the same thing."""
    words = {number: word for number, (_, word, _) in enumerate(book.arrows)}
    ends = list(book.ends)
    for change in changes:
        if change[0] == "word":
            words[change[1]] = change[2]
        elif change[0] == "drop":
            del words[change[1]]
        else:
            ends.remove(change[1])
    arrows = {
        (first, words[number], last)
        for number, (first, _, last) in enumerate(book.arrows) if number in words
    }
    return Book(book.size, book.rooms, book.start, sorted(arrows), ends)


def changed_book(book, changes):
    """Return the book after all these changes, made at once."""
    return book_after(book, checked_changes(book, changes))


def is_good_by(book, marker):
    """Tell whether the book writes a strip, and none without the verdict of the marker."""
    return book.earliest() is not None and earliest_by(VerdictReader(book, marker, False)) is None


def is_good_book(book, verdict):
    """Tell whether the book writes a strip and every strip that it writes has the verdict."""
    check_verdict(verdict)
    return is_good_by(book, Marker(verdict))


def checked_pool(book, pool):
    """Return the changes of a pool as tuples, or raise BadPool for what is refused."""
    if not is_sequence(pool) or not 1 <= len(pool) <= MOST_POOL:
        raise BadPool(0, "pool")
    found = [change_of(book, thing) for thing in pool]
    if None in found:
        raise BadPool(found.index(None), "change")
    return found


def lots_of(many):
    """Return all lots of so many places, by length, then ascending."""
    found = [()]
    done = 0
    # Behind each lot stand the longer ones that begin with it, so they come in their order.
    while done < len(found):
        lot = found[done]
        done += 1
        found.extend([(*lot, place) for place in range(lot[-1] + 1 if lot else 0, many)])
    return found


def least_mends(book, pool, *, verdict="follows"):
    """Return the least lots of places of the pool whose changes make a good book, by length, then ascending."""
    check_verdict(verdict)
    changes = checked_pool(book, pool)
    marker = Marker(verdict)
    mends = []
    for lot in lots_of(len(changes)):
        chosen = [changes[place] for place in lot]
        holds_one = any([all([place in lot for place in mend]) for mend in mends])
        if not holds_one and clashes(chosen) is None and is_good_by(book_after(book, chosen), marker):
            mends.append(lot)
    return tuple(mends)
