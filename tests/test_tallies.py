import random
import unittest
from unittest.mock import patch

from helpers import NO_NUMBERS, Raises, all_strips, all_words, slow_verdict, slow_writes, some_book
from slitstairs import tallies
from slitstairs.books import Book
from slitstairs.errors import BadVerdict, BadWidth
from slitstairs.tallies import greatest_width, how_many_with, least_strip
from slitstairs.verdicts import VERDICTS
from test_verdicts import NO_VERDICTS

PAIR = Book.of_strip("ddoododo", "dododdoo")


def some_books():
    chance = random.Random(14)
    for size in (2, 3, 4):
        for rooms in (1, 2, 3, 4):
            for most in (2, 4, 6):
                yield some_book(chance, size, rooms, most, Book)
    for _ in range(10):
        yield Book.of_any(*chance.sample(all_words(4), 3))
        yield Book.of_strip(*chance.sample(all_words(3), chance.randrange(2, 4)))


def told_widths(book, verdict, most):
    """The strips with a verdict that the book writes, by width."""
    return {width: [strip for strip in all_strips(book.words, width)
                    if slow_writes(book, strip) and slow_verdict(strip, verdict)] for width in range(1, most + 1)}


class TalliesTest(Raises, unittest.TestCase):
    def test_the_examples(self):
        book = Book.of_any("dododo", "ddoodo")
        self.assertEqual((how_many_with(book, 5, "follows"), greatest_width(book, "stuck"),
                          greatest_width(book, "parted")), (31, None, 0))
        self.assertEqual(least_strip(PAIR, "parted"), ("ddoododo", "dododdoo"))

    def test_by_hand(self):
        self.assertEqual([greatest_width(PAIR, verdict) for verdict in VERDICTS], [0, 2, 2, 0, 2])
        self.assertEqual([least_strip(PAIR, verdict) is None for verdict in VERDICTS], [True, False, False, True, False])
        self.assertEqual([how_many_with(PAIR, 2, verdict) for verdict in VERDICTS], [0, 1, 1, 0, 1])
        self.assertEqual([how_many_with(PAIR, 1, verdict) for verdict in VERDICTS], [0] * 5)
        lone = Book.of_any("dododo")
        self.assertEqual([greatest_width(lone, verdict) for verdict in VERDICTS], [0, None, 0, None, 0])
        self.assertEqual(least_strip(lone, "sways"), ("dododo",))

    def test_against_all_strips(self):
        kinds = set()
        for book in some_books():
            most = 4 if len(book.words) < 4 else 3
            for verdict in VERDICTS:
                strips = told_widths(book, verdict, most)
                for width, found in strips.items():
                    self.assertEqual(how_many_with(book, width, verdict), len(found))
                self.check_least(book, verdict, strips)
                kinds.add(self.check_greatest(book, verdict, strips))
        self.assertLessEqual({0, 1, 2, None}, kinds)

    def check_least(self, book, verdict, strips):
        least = least_strip(book, verdict)
        told = [found[0] for found in strips.values() if found]
        if told:
            self.assertEqual(least, told[0])
            self.assertIs(least.__class__, tuple)
        elif least is not None:
            self.assertGreater(len(least), len(strips))
            self.assertTrue(slow_writes(book, least) and slow_verdict(least, verdict))

    def check_greatest(self, book, verdict, strips):
        greatest = greatest_width(book, verdict)
        told = max([width for width, found in strips.items() if found], default=0)
        counts = {width: how_many_with(book, width, verdict) for width in (1, 2, 3, 4, 41, 42, 60)}
        if greatest is None:
            self.assertTrue(any(counts[width] for width in (41, 42, 60)))
        else:
            self.assertGreaterEqual(greatest, told)
            self.assertEqual(max([width for width, many in counts.items() if many], default=0), greatest)
        return greatest

    def test_a_way_that_ends_and_one_that_does_not(self):
        # A room without a way to an end may be gone round for ever.
        book = Book(2, 3, 0, [(0, "ddoo", 1), (0, "ddoo", 2), (2, "ddoo", 2)], [1])
        self.assertEqual([greatest_width(book, verdict) for verdict in VERDICTS], [1, 0, 1, 0, 0])
        book = Book(2, 3, 0, [(0, "ddoo", 1), (0, "ddoo", 2), (2, "ddoo", 2)], [2])
        self.assertIsNone(greatest_width(book, "opens"))
        book = Book(2, 4, 0, [(0, "ddoo", 1), (1, "dodo", 2), (2, "ddoo", 3), (0, "ddoo", 3)], [3, 1])
        self.assertEqual(greatest_width(book, "follows"), 3)

    def test_the_start_is_no_strip(self):
        book = Book(2, 2, 0, [(0, "ddoo", 1)], [0])
        for verdict in VERDICTS:
            self.assertEqual((least_strip(book, verdict), greatest_width(book, verdict)), (None, 0))

    def test_great_widths(self):
        book = Book.of_any(*all_words(4))
        counts = {verdict: how_many_with(book, 60, verdict) for verdict in VERDICTS}
        self.assertEqual(counts["follows"] + counts["stuck"], 14 ** 60)
        self.assertEqual(counts["opens"] + counts["sways"], 14 ** 60)
        self.assertEqual(counts["opens"] - counts["follows"], counts["parted"])
        self.assertTrue(all(counts.values()))
        self.assertEqual({greatest_width(book, verdict) for verdict in VERDICTS}, {None})
        least = least_strip(book, "parted")
        self.assertEqual(len(least), 2)
        self.assertEqual(least, min(strip for strip in all_strips(book.words, 2) if slow_verdict(strip, "parted")))

    def test_small_widths_of_all_words(self):
        for size, most in ((1, 4), (2, 4), (3, 3), (4, 2)):
            book = Book.of_any(*all_words(size))
            for width in range(1, most + 1):
                for verdict in VERDICTS:
                    told = len([strip for strip in all_strips(book.words, width) if slow_verdict(strip, verdict)])
                    self.assertEqual(how_many_with(book, width, verdict), told)

    def test_what_a_word_makes_of_a_shape_is_worked_out_once(self):
        chance = random.Random(15)
        for book in [Book.of_any(*all_words(3)), Book.of_any(*chance.sample(all_words(4), 5)), PAIR]:
            for name, verdict in (("shape_after", "stuck"), ("span_after", "sways"), ("shape_after", "parted")):
                seen = []
                work = getattr(tallies, name)

                def kept(made, word):
                    seen.append((made.word, made.outs, made.downs, word))
                    return work(made, word)

                counts = []
                for width in (2, 30, 60):
                    with patch.object(tallies, name, kept):
                        how_many_with(book, width, verdict)
                    self.assertEqual(len(set(seen)), len(seen))
                    counts.append(len(seen))
                    seen.clear()
                self.assertEqual(len(set(counts[1:])), 1)

    def test_empty_books(self):
        for book in (Book(4, 1, 0, (), ()), Book(4, 2, 0, [(0, "dodododo", 0)], [1]), Book(4, 2, 0, (), (0, 1))):
            for verdict in VERDICTS:
                self.assertEqual((least_strip(book, verdict), greatest_width(book, verdict)), (None, 0))
                self.assertEqual(how_many_with(book, 7, verdict), 0)

    def test_wrong_arguments(self):
        for thing in NO_VERDICTS:
            self.raises(BadVerdict, {"verdict": thing}, least_strip, PAIR, thing)
            self.raises(BadVerdict, {"verdict": thing}, greatest_width, PAIR, thing)
            self.raises(BadVerdict, {"verdict": thing}, how_many_with, PAIR, 2, thing)
            self.raises(BadVerdict, {"verdict": thing}, how_many_with, PAIR, None, thing)
        for width in (*NO_NUMBERS, 0, -1, 61):
            self.raises(BadWidth, {"width": width}, how_many_with, PAIR, width, "parted")
