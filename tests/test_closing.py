import random
import unittest

from helpers import Anything, all_strips, all_words, slow_follows, slow_opens, slow_writes, some_book
from slitstairs.books import Book
from slitstairs.closing import AllFollow, AllOpen, SomeCard, all_follow, all_open, closing_fault
from slitstairs.shapes import Shape, shape_after, shape_of
from slitstairs.spans import Span, span_of

PLAIN = Book.of_any("ddoo")
PAIR = Book.of_strip("ddoododo", "dododdoo")


def slow_pairs(book, make):
    """All pairs in their order, by trying all strips of each width until one brings no new pair."""
    found = []
    layer = [((), (book.start,))]
    while layer:
        longer = []
        for strip, _ in layer:
            for word in book.words:
                led = (*strip, word)
                rooms = rooms_of(book, led)
                state = make(led) if rooms else None
                new = [room for room in rooms if (room, state) not in found]
                found += [(room, state) for room in new]
                if new:
                    longer.append((led, rooms))
        layer = longer
    return tuple(found)


def rooms_of(book, strip):
    rooms = {book.start}
    for word in strip:
        rooms = {last for first, told, last in book.arrows if first in rooms and told == word}
    return sorted(rooms)


def some_books():
    chance = random.Random(12)
    for size in (1, 2, 3, 3, 4, 4):
        for rooms in (1, 2, 3, 4):
            for most in (1, 2, 3, 5):
                yield some_book(chance, size, rooms, most, Book)
    few = ["ddoo", "dodo"]
    for _ in range(10):
        rooms = chance.randrange(2, 5)
        arrows = {(chance.randrange(rooms), chance.choice(few), chance.randrange(rooms)) for _ in range(8)}
        yield Book(2, rooms, 0, sorted(arrows), [rooms - 1])


class AllTest(unittest.TestCase):
    def test_the_examples(self):
        self.assertEqual(all_follow(Book.of_any("dododo", "ddoodo")), SomeCard(("dododo",)))
        self.assertEqual((len(all_open(PAIR)), closing_fault(PAIR, all_open(PAIR))), (2, None))
        self.assertEqual(all_follow(PAIR), SomeCard(("ddoododo", "dododdoo")))

    def test_by_hand(self):
        shape, span = shape_of(("ddoo",)), span_of(("ddoo",))
        self.assertEqual(all_follow(PLAIN), AllFollow(((0, shape),)))
        self.assertEqual(all_open(PLAIN), AllOpen(((0, span),)))
        book = Book(2, 3, 0, [(0, "dodo", 2), (0, "dodo", 1), (0, "ddoo", 2), (2, "ddoo", 0)], [1, 2])
        self.assertEqual(all_open(book).pairs, (
            (2, span_of(("ddoo",))), (1, span_of(("dodo",))), (2, span_of(("dodo",))), (0, span_of(("ddoo", "ddoo"))),
            *slow_pairs(book, span_of)[4:]))

    def check(self, book, call, kind, fine, make):
        found = call(book)
        strips = [strip for width in range(1, 5 if len(book.words) < 4 else 4)
                  for strip in all_strips(book.words, width) if slow_writes(book, strip)]
        bad = [strip for strip in strips if not fine(strip)]
        if isinstance(found, SomeCard):
            self.assertIs(found.strip.__class__, tuple)
            self.assertTrue(slow_writes(book, found.strip) and not fine(found.strip))
            if bad:
                self.assertEqual(found.strip, bad[0])
        else:
            self.assertIs(found.__class__, kind)
            self.assertEqual(bad, [])
            self.assertEqual(found.pairs, slow_pairs(book, make))
            self.assertEqual({part.__class__ for part in (found.pairs, *found.pairs)} - {tuple}, set())
        self.assertIsNone(closing_fault(book, found))
        return found.__class__

    def test_some_books(self):
        kinds = []
        for book in some_books():
            kinds.append(self.check(book, all_follow, AllFollow, slow_follows, shape_of))
            kinds.append(self.check(book, all_open, AllOpen, slow_opens, span_of))
        for kind in (AllFollow, AllOpen, SomeCard):
            self.assertGreater(kinds.count(kind), 9)

    def test_books_that_write_nothing(self):
        for book in (Book(4, 1, 0, (), [0]), Book(4, 2, 0, [(0, "dodododo", 0)], [1])):
            self.assertEqual(all_follow(book), AllFollow(slow_pairs(book, shape_of)))
            self.assertEqual(all_open(book), AllOpen(slow_pairs(book, span_of)))
        self.assertEqual(all_follow(Book(4, 1, 0, (), [0])).pairs, ())

    def test_a_book_of_all_words(self):
        book = Book.of_any(*all_words(2))
        self.assertEqual(all_follow(book).pairs, slow_pairs(book, shape_of))
        self.assertIsNone(closing_fault(book, all_open(book)))
        great = Book(4, 2, 0, [(0, word, 0) for word in all_words(4)], [1])
        found = all_follow(great)
        self.assertGreater(len(found), 50)
        self.assertIsNone(closing_fault(great, found))
        self.assertEqual(all_follow(Book.of_any(*all_words(4))).strip, ("ddododoo",))

    def test_length_and_iteration(self):
        for result in (all_follow(Book.of_any("ddoo", "dodo")), all_open(Book.of_any("ddoo", "dodo"))):
            self.assertEqual((len(result), tuple(result), list(result)),
                             (len(result.pairs), result.pairs, list(result.pairs)))
            self.assertGreater(len(result), 1)


class ResultsTest(unittest.TestCase):
    def test_equality(self):
        pairs = ((0, shape_of(("ddoo",))),)
        self.assertEqual(AllFollow(pairs), AllFollow(((0, shape_of(["ddoo"])),)))
        self.assertEqual(SomeCard(("do",)), SomeCard(("do",)))
        results = [AllFollow(pairs), AllFollow(()), AllOpen(pairs), AllOpen(()), SomeCard(pairs), SomeCard(())]
        for one in results:
            for other in (*results, pairs, None, ()):
                self.assertIs(one == other, one is other)
                self.assertIs(one != other, one is not other)
            self.assertIs(one.__eq__(Anything()), False)

    def test_arguments_are_kept_as_they_are(self):
        self.assertEqual(vars(AllFollow([1])), {"pairs": [1]})
        self.assertEqual(vars(AllOpen("x")), {"pairs": "x"})
        self.assertEqual(vars(SomeCard(None)), {"strip": None})


class ClosingFaultTest(unittest.TestCase):
    BOOK = Book(2, 3, 0, [(0, "dodo", 2), (0, "dodo", 1), (0, "ddoo", 2), (2, "ddoo", 0)], [1, 2])

    def test_pairs_in_any_order_and_further_ones(self):
        for call, kind, make in ((all_follow, AllFollow, shape_of), (all_open, AllOpen, span_of)):
            pairs = call(self.BOOK).pairs
            self.assertIsNone(closing_fault(self.BOOK, kind(pairs[::-1])))
            self.assertIsNone(closing_fault(self.BOOK, kind((*pairs, (1, make(("dodo", "dodo", "ddoo"))), pairs[0]))))

    def test_a_pair_left_out(self):
        for call, kind in ((all_follow, AllFollow), (all_open, AllOpen)):
            pairs = call(self.BOOK).pairs
            firsts = {(2, "ddoo"), (1, "dodo"), (2, "dodo")}
            for k, (room, state) in enumerate(pairs):
                rest = pairs[:k] + pairs[k + 1:]
                word = "start" if k < len(firsts) else "arrow"
                self.assertEqual(closing_fault(self.BOOK, kind(rest)), word)
            self.assertEqual(closing_fault(self.BOOK, kind(())), "start")

    def test_start_ahead_of_arrow_and_end(self):
        book = Book(3, 2, 0, [(0, "dododo", 1), (1, "dddooo", 1)], [1])
        lone = (1, shape_of(("dododo",)))
        self.assertEqual(closing_fault(book, AllFollow(((0, lone[1]),))), "start")
        self.assertEqual(closing_fault(book, AllFollow((lone,))), "arrow")
        pairs = [lone]
        for _ in range(3):
            pairs.append((1, shape_after(pairs[-1][1], "dddooo")))
        self.assertEqual(closing_fault(book, AllFollow(tuple(pairs))), "end")
        spans = ((1, span_of(("dododo",))), (1, span_of(("dododo", "dddooo"))), (1, span_of(("dododo", "dddooo", "dddooo"))))
        self.assertEqual(closing_fault(book, AllOpen(spans)), "end")
        self.assertEqual(closing_fault(book, AllOpen(spans[:1])), "arrow")
        self.assertEqual(closing_fault(book, AllOpen(spans[1:])), "start")

    def test_a_further_pair_of_an_end_that_is_not_fine(self):
        book = Book(3, 1, 0, [(0, "dddooo", 0)], [0])
        pairs = all_follow(book).pairs
        bad = (0, shape_of(("dododo",)))
        led = (0, shape_of(("dododo", "dddooo")))
        self.assertEqual(closing_fault(book, AllFollow((*pairs, bad))), "arrow")
        self.assertEqual(closing_fault(book, AllFollow((*pairs, bad, led))), "end")

    def test_a_spoilt_shape(self):
        book = Book.of_any("ddoo", "dodo")
        pairs = all_follow(book).pairs
        for k, (room, shape) in enumerate(pairs):
            spoilt = Shape(shape.word, shape.outs[::-1], shape.downs)
            if spoilt != shape:
                self.assertIsNotNone(closing_fault(book, AllFollow((*pairs[:k], (room, spoilt), *pairs[k + 1:]))))
        pairs = all_open(book).pairs
        for k, (room, span) in enumerate(pairs):
            spoilt = Span(span.word, (not span.outs[0], span.outs[1]), span.downs)
            self.assertIsNotNone(closing_fault(book, AllOpen((*pairs[:k], (room, spoilt), *pairs[k + 1:]))))

    def test_some_card(self):
        book = Book.of_any("dododo", "ddoodo")
        self.assertIsNone(closing_fault(book, SomeCard(("dododo",))))
        # Whether it is the earliest is not judged.
        self.assertIsNone(closing_fault(book, SomeCard(("dododo",) * 3)))
        self.assertEqual(closing_fault(book, SomeCard(("dododo", "dddooo"))), "book")
        self.assertEqual(closing_fault(book, SomeCard(())), "book")
        self.assertEqual(closing_fault(book, SomeCard(("ddoo",))), "book")
        self.assertEqual(closing_fault(book, SomeCard(("ddoodo",))), "fine")
        self.assertEqual(closing_fault(PAIR, SomeCard(("ddoododo", "dododdoo"))), None)
        self.assertEqual(closing_fault(PAIR, SomeCard(("ddoododo",))), "book")
