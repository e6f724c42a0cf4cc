import random
import unittest
from itertools import islice, product

from helpers import (NO_NUMBERS, NO_SEQUENCES, NO_WORDS, Anything, Raises, all_strips, all_words, slow_writes,
                     some_book)
from slitstairs.books import Book, parting_strip
from slitstairs.cards import Card
from slitstairs.errors import BadBook, BadStrip, BadWidth, NoSuch

ARROWS = ((0, "ddoo", 1), (1, "dodo", 0), (0, "ddoo", 0))


def written(book, width):
    return [strip for strip in all_strips(book.words, width) if slow_writes(book, strip)]


def some_books():
    chance = random.Random(10)
    for size in (1, 2, 3, 4):
        for rooms in (1, 2, 3, 4):
            for most in (0, 1, 3, 6, 9):
                yield some_book(chance, size, rooms, most, Book)


class BookTest(unittest.TestCase):
    def test_attributes(self):
        book = Book(2, 3, 0, ARROWS, [2, 0])
        self.assertEqual(vars(book), {
            "size": 2, "rooms": 3, "start": 0, "ends": (0, 2), "words": ("ddoo", "dodo"),
            "arrows": ((0, "ddoo", 0), (0, "ddoo", 1), (1, "dodo", 0))})
        self.assertEqual((len(book), list(book), tuple(book)), (3, list(book.arrows), book.arrows))
        self.assertEqual(Book.MOST_WIDTH, 60)
        self.assertEqual(book.MOST_WIDTH, 60)

    def test_nothing_in_it(self):
        book = Book(4, 1, 0, (), ())
        self.assertEqual((book.arrows, book.ends, book.words, len(book), list(book)), ((), (), (), 0, []))
        self.assertEqual((book.how_many(1), book.how_many(60), list(book.strips(3)), book.earliest()), (0, 0, [], None))

    def test_greatest(self):
        arrows = [(k // 6, word, k % 4) for k, word in enumerate(all_words(4)[:12] * 2)]
        book = Book(4, 4, 3, arrows, (3, 2, 1, 0))
        self.assertEqual((len(book), book.arrows), (24, tuple(sorted(arrows))))

    def test_lists_are_neither_kept_nor_changed(self):
        arrows, ends = [[1, "dodo", 0], [0, "ddoo", 1]], [1, 0]
        book = Book(2, 2, 0, arrows, ends)
        self.assertEqual((arrows, ends), ([[1, "dodo", 0], [0, "ddoo", 1]], [1, 0]))
        arrows[0][1] = "ddoo"
        arrows.append(None)
        ends.append(3)
        self.assertEqual((book.arrows, book.ends), (((0, "ddoo", 1), (1, "dodo", 0)), (0, 1)))
        self.assertEqual({part.__class__ for part in (book.arrows, *book.arrows, book.ends, book.words)}, {tuple})

    def test_equality(self):
        book = Book(2, 3, 0, ARROWS, [2, 0])
        self.assertEqual(book, Book(2, 3, 0, [list(arrow) for arrow in ARROWS[::-1]], (0, 2)))
        others = (Book(2, 4, 0, ARROWS, [2, 0]), Book(2, 3, 1, ARROWS, [2, 0]), Book(2, 3, 0, ARROWS[1:], [2, 0]),
                  Book(2, 3, 0, ARROWS, [2]), Book(3, 3, 0, (), ()), None, ARROWS, book.arrows)
        for other in others:
            self.assertFalse(book == other)
            self.assertTrue(book != other)
        self.assertFalse(Book(2, 3, 0, (), ()) == Book(3, 3, 0, (), ()))
        self.assertIs(book.__eq__(Anything()), False)


class BadBookTest(Raises, unittest.TestCase):
    def refused(self, index, what, *args):
        self.raises(BadBook, {"index": index, "what": what}, Book, *args)

    def test_numbers(self):
        for thing in (*NO_NUMBERS, 0, -1, 5, 10 ** 20):
            self.refused(0, "size", thing, None, None, None, None)
            self.refused(0, "rooms", 1, thing, None, None, None)
        for thing in (*NO_NUMBERS, -1, 2, 10 ** 20):
            self.refused(0, "start", 1, 2, thing, None, None)

    def test_arrows(self):
        for thing in (*NO_SEQUENCES, [(0, "do", 0)] * 25, [None] * 25):
            self.refused(0, "arrows", 1, 1, 0, thing, None)

    def test_arrow(self):
        good = (0, "ddoo", 1)
        for thing in (*NO_SEQUENCES, (), (0, "ddoo"), (0, "ddoo", 1, 1), "abc", Anything()):
            self.refused(0, "arrow", 2, 2, 0, [thing, None], None)
            self.refused(1, "arrow", 2, 2, 0, (good, thing, good), None)
        for room in (*NO_NUMBERS, -1, 2):
            self.refused(1, "arrow", 2, 2, 0, [good, (room, "ddoo", 0)], None)
            self.refused(1, "arrow", 2, 2, 0, [good, [0, "ddoo", room]], None)
        for word in (*NO_WORDS, "do", "dddooo"):
            self.refused(1, "arrow", 2, 2, 0, [good, (0, word, 0)], None)

    def test_double(self):
        self.refused(2, "double", 2, 2, 0, [(0, "ddoo", 1), (0, "ddoo", 0), [0, "ddoo", 1], None], None)
        self.refused(1, "double", 2, 2, 0, [(0, "ddoo", 1), (0, "ddoo", 1), None], None)

    def test_ends(self):
        for thing in NO_SEQUENCES:
            self.refused(0, "ends", 2, 2, 0, [(0, "ddoo", 1)], thing)
        for thing in (*NO_NUMBERS, -1, 2):
            self.refused(0, "end", 2, 2, 0, (), [thing])
            self.refused(1, "end", 2, 2, 0, (), (1, thing, 1))
        self.refused(1, "twice", 2, 2, 0, (), [1, 1, None])
        self.refused(2, "twice", 2, 2, 0, (), (0, 1, 0))


class MadeOfWordsTest(Raises, unittest.TestCase):
    def test_of_strip(self):
        self.assertEqual(Book.of_strip("do"), Book(1, 2, 0, [(0, "do", 1)], [1]))
        self.assertEqual(Book.of_strip("dodo", "ddoo"), Book(2, 3, 0, [(0, "dodo", 1), (1, "ddoo", 2)], [2]))
        book = Book.of_strip("ddoo", "ddoo", "dodo")
        self.assertEqual((book.arrows, book.rooms), (((0, "ddoo", 1), (1, "ddoo", 2), (2, "dodo", 3)), 4))
        for width in range(1, 6):
            self.assertEqual(list(book.strips(width)), [("ddoo", "ddoo", "dodo")] if width == 3 else [])

    def test_of_any(self):
        book = Book.of_any("dodo", "ddoo", "dodo")
        self.assertEqual(book, Book(2, 1, 0, [(0, "ddoo", 0), (0, "dodo", 0)], [0]))
        self.assertEqual(list(book.strips(3)), all_strips(("ddoo", "dodo"), 3))
        self.assertEqual(len(Book.of_any(*all_words(4) * 30)), 14)

    def test_refused(self):
        self.raises(BadStrip, {"index": 3, "what": "strip"}, Book.of_strip, "do", "do", "do", "do")
        self.raises(BadStrip, {"index": 3, "what": "strip"}, Book.of_strip, None, None, None, None, None)
        for make in (Book.of_strip, Book.of_any):
            self.raises(BadStrip, {"index": 0, "what": "strip"}, make)
            for thing in (*NO_WORDS, Anything()):
                self.raises(BadStrip, {"index": 0, "what": "word"}, make, thing, None)
                self.raises(BadStrip, {"index": 2, "what": "word"}, make, "do", "do", thing)
            self.raises(BadStrip, {"index": 1, "what": "size"}, make, "do", "ddoo", None)
        self.raises(BadStrip, {"index": 3, "what": "size"}, Book.of_any, "do", "do", "do", "ddoo", None)


class StripsTest(Raises, unittest.TestCase):
    def test_the_example(self):
        book = Book.of_any("dododo", "ddoodo")
        self.assertEqual((book.how_many(3), book.strip_at(2, 1)), (8, ("ddoodo", "dododo")))

    def test_some_books(self):
        for book in some_books():
            first = None
            for width in range(1, 5 if len(book.words) < 6 else 4):
                strips = written(book, width)
                self.assertEqual(book.how_many(width), len(strips))
                self.assertEqual(list(book.strips(width)), strips)
                for number, strip in enumerate(strips):
                    self.assertEqual(book.strip_at(width, number), strip)
                    self.assertEqual(book.number_of(strip), number)
                    self.assertEqual(book.number_of(list(strip)), number)
                for strip in all_strips(book.words, width):
                    self.assertIs(book.writes(strip), strip in strips)
                    if strip not in strips:
                        self.assertIsNone(book.number_of(strip))
                if first is None and strips:
                    first = strips[0]
            if first is not None:
                self.assertEqual(book.earliest(), first)
            elif book.earliest() is not None:
                self.assertTrue(slow_writes(book, book.earliest()))

    def test_written_in_several_ways(self):
        book = Book(2, 3, 0, [(0, "ddoo", 1), (0, "ddoo", 2), (1, "dodo", 0), (2, "dodo", 0), (0, "ddoo", 0)], [0, 1, 2])
        for width in range(1, 8):
            self.assertEqual(book.how_many(width), len(written(book, width)))
            self.assertEqual(list(book.strips(width)), written(book, width))

    def test_no_strip_of_no_words(self):
        book = Book(1, 1, 0, [], [0])
        self.assertEqual((book.writes(()), book.earliest(), book.how_many(1)), (False, None, 0))
        book = Book(1, 2, 0, [(0, "do", 1), (1, "do", 0)], [0])
        self.assertEqual(book.earliest(), ("do", "do"))

    def test_great_widths(self):
        book = Book.of_any(*all_words(4))
        self.assertEqual(book.how_many(60), 14 ** 60)
        self.assertEqual(book.strip_at(60, 0), ("ddddoooo",) * 60)
        self.assertEqual(book.strip_at(60, 14 ** 60 - 1), ("dodododo",) * 60)
        self.assertEqual(list(islice(book.strips(60), 3))[2], ("ddddoooo",) * 59 + (all_words(4)[2],))
        for number in (1, 10 ** 30, 14 ** 59 * 7 + 5):
            self.assertEqual(book.number_of(book.strip_at(60, number)), number)
        self.assertEqual(book.number_of(("dodododo",) * 200), 14 ** 200 - 1)
        self.assertIs(book.writes(["dodododo"] * 200), True)

    def test_great_widths_of_books_of_several_rooms(self):
        book = Book(2, 3, 0, [(0, "ddoo", 1), (0, "ddoo", 0), (1, "dodo", 2), (2, "dodo", 0), (2, "ddoo", 2)], [2])
        for number in (0, 1, 5 ** 9, book.how_many(60) - 1):
            strip = book.strip_at(60, number)
            self.assertTrue(slow_writes(book, strip))
            self.assertEqual((len(strip), book.number_of(strip)), (60, number))
        self.assertEqual([strip.__class__ for strip in islice(book.strips(60), 2)], [tuple, tuple])

    def test_things_that_are_no_strips(self):
        book = Book.of_any("dodo")
        for thing in (*NO_SEQUENCES, *NO_WORDS, (), [], "dodo", ("dodo", "do"), ("dodo", None), ("dodo", Anything()),
                      ("dodo", ["dodo"]), ["x"], (1,)):
            self.assertIs(book.writes(thing), False)
            self.assertIsNone(book.number_of(thing))

    def test_reads(self):
        book = Book.of_any("ddoo", "dodo")
        self.assertIs(book.reads(Card.of_words("ddoo", "dodo")), True)
        self.assertIs(book.reads(Card.of_words("ddoo", "ddoo", marks=[(0, 1)])), False)
        self.assertIs(book.reads(Card.of_words("ddoo", "dodo", marks=[(0, 1)])), False)
        self.assertIs(book.reads(Card.of_words("dddooo")), False)
        self.assertIs(Book.of_strip("ddoo").reads(Card.of_words("ddoo", "ddoo")), False)

    def test_wrong_widths_and_numbers(self):
        book = Book.of_any("ddoo", "dodo")
        for width in (*NO_NUMBERS, 0, -1, 61, 10 ** 20):
            self.raises(BadWidth, {"width": width}, book.how_many, width)
            self.raises(BadWidth, {"width": width}, book.strip_at, width, None)
            self.raises(BadWidth, {"width": width}, lambda: list(book.strips(width)))
        for number in (*NO_NUMBERS, -1, 8, 10 ** 20):
            self.raises(NoSuch, {"number": number}, book.strip_at, 3, number)
        self.raises(NoSuch, {"number": 0}, Book(2, 1, 0, (), ()).strip_at, 1, 0)

    def test_the_strip_passed_stays(self):
        strip = ["ddoo", "dodo"]
        Book.of_any("ddoo", "dodo").number_of(strip)
        self.assertEqual(strip, ["ddoo", "dodo"])


class PartingStripTest(unittest.TestCase):
    def check(self, one, other):
        """Against all strips of small widths."""
        found = parting_strip(one, other)
        self.assertEqual(parting_strip(other, one), found)
        words = sorted({*one.words, *other.words})
        if found is not None:
            self.assertIs(found.__class__, tuple)
            self.assertNotEqual(slow_writes(one, found), slow_writes(other, found))
            self.assertEqual(len({len(word) for word in found}), 1)
        for width in range(1, 5 if len(words) < 5 else 4):
            if found is not None and width > len(found):
                break
            for strip in product(words, repeat=width):
                if found is not None and (width, strip) >= (len(found), found):
                    break
                self.assertEqual(slow_writes(one, strip), slow_writes(other, strip), strip)

    def test_some_books(self):
        chance = random.Random(3)
        for size in (1, 2, 3):
            for _ in range(40):
                one, other = (some_book(chance, size, chance.randrange(1, 5), 5, Book) for _ in range(2))
                self.check(one, other)
                self.assertIsNone(parting_strip(one, one))

    def test_sizes_that_differ(self):
        chance = random.Random(4)
        for _ in range(40):
            one = some_book(chance, chance.randrange(1, 4), 2, 4, Book)
            other = some_book(chance, chance.randrange(1, 4), 3, 5, Book)
            self.check(one, other)
        self.assertEqual(parting_strip(Book.of_any("do"), Book.of_any("ddoo")), ("ddoo",))
        self.assertEqual(parting_strip(Book.of_any("dodo"), Book.of_any("do")), ("do",))
        self.assertEqual(parting_strip(Book.of_strip("do", "do"), Book.of_strip("dodo")), ("dodo",))
        self.assertIsNone(parting_strip(Book(1, 1, 0, (), ()), Book(4, 2, 1, (), [1])))

    def test_equal_books_of_other_rooms(self):
        even = Book(2, 2, 0, [(0, "ddoo", 1), (1, "ddoo", 0)], [0])
        four = Book(2, 4, 3, [(3, "ddoo", 2), (2, "ddoo", 1), (1, "ddoo", 0), (0, "ddoo", 3)], [1, 3])
        self.assertIsNone(parting_strip(even, four))
        less = Book(2, 4, 3, [(3, "ddoo", 2), (2, "ddoo", 1), (1, "ddoo", 0), (0, "ddoo", 3)], [3])
        self.assertEqual(parting_strip(even, less), ("ddoo",) * 2)
        three = Book(2, 3, 0, [(0, "ddoo", 1), (1, "ddoo", 2), (2, "ddoo", 0)], [0])
        self.assertEqual(parting_strip(three, less), ("ddoo",) * 3)
        every = Book(2, 3, 0, [(0, "ddoo", 1), (1, "ddoo", 2), (2, "ddoo", 0)], [0, 1, 2])
        self.assertIsNone(parting_strip(every, Book.of_any("ddoo")))

    def test_a_strip_that_is_wide(self):
        three = Book(1, 3, 0, [(0, "do", 1), (1, "do", 2), (2, "do", 0)], [1, 2])
        four = Book(1, 4, 0, [(0, "do", 1), (1, "do", 2), (2, "do", 3), (3, "do", 0)], [1, 2, 3])
        self.assertEqual(parting_strip(three, four), ("do",) * 3)
        self.assertEqual(parting_strip(Book(1, 4, 0, four.arrows, [0]), Book(1, 1, 0, (), ())), ("do",) * 4)

    def test_empty_books(self):
        empty = Book(2, 1, 0, (), ())
        self.assertIsNone(parting_strip(empty, Book(2, 2, 0, [(0, "ddoo", 0)], [1])))
        self.assertEqual(parting_strip(empty, Book.of_any("ddoo", "dodo")), ("ddoo",))
