import unittest
from itertools import islice

from helpers import NO_NUMBERS, Raises, all_words
from slitstairs.allcolumns import (
    all_columns, column_at, column_index, how_many_columns, plain_column, steep_column)
from slitstairs.columns import Column
from slitstairs.errors import BadSize, NoSuch


class AllColumnsTest(Raises, unittest.TestCase):
    def test_how_many(self):
        self.assertEqual([how_many_columns(size) for size in range(1, 7)], [1, 2, 5, 14, 42, 132])

    def test_all_in_order(self):
        for size in range(1, 7):
            columns = list(all_columns(size))
            self.assertEqual([column.word for column in columns], all_words(size))
            self.assertEqual({column.__class__ for column in columns}, {Column})

    def test_the_generator_may_be_left(self):
        columns = all_columns(6)
        self.assertEqual([str(column) for column in islice(columns, 2)], ["ddddddoooooo", "dddddodooooo"])
        self.assertEqual(next(columns).word, "dddddoodoooo")

    def test_numbers(self):
        for size in range(1, 7):
            for number, word in enumerate(all_words(size)):
                self.assertEqual(column_at(size, number).word, word)
                self.assertEqual(column_index(Column(word)), number)

    def test_plain_and_steep(self):
        for size in range(1, 7):
            self.assertEqual(plain_column(size).word, "d" * size + "o" * size)
            self.assertEqual(steep_column(size).word, "do" * size)
            self.assertEqual(column_index(plain_column(size)), 0)
            self.assertEqual(column_index(steep_column(size)), how_many_columns(size) - 1)

    def test_no_sizes(self):
        calls = (how_many_columns, plain_column, steep_column,
                 lambda size: next(all_columns(size)),
                 lambda size: column_at(size, 0),
                 lambda size: column_at(size, None))
        for size in (*NO_NUMBERS, 0, 7, -1):
            for call in calls:
                with self.subTest(size):
                    self.raises(BadSize, {"size": size}, call, size)

    def test_no_numbers(self):
        for size, many in ((1, 1), (3, 5), (6, 132)):
            for number in (*NO_NUMBERS, -1, many, many + 1):
                with self.subTest((size, number)):
                    self.raises(NoSuch, {"number": number}, column_at, size, number)
