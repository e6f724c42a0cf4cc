import unittest
from itertools import islice, product

from helpers import NO_NUMBERS, NO_SEQUENCES, Anything, Raises, all_words
from slitstairs.cards import Card
from slitstairs.columns import Column
from slitstairs.errors import BadRow, NoSuch
from slitstairs.shut import thickness_row
from slitstairs.thickrows import (
    column_with_row, columns_with_row, how_many_with_row, row_index, thickness_fault)


def row_of(word):
    return thickness_row(Card.of_words(word), 0)


def words_by_row(size):
    found = {}
    for word in all_words(size):
        found.setdefault(row_of(word), []).append(word)
    return found


class RowsTest(Raises, unittest.TestCase):
    def test_the_example(self):
        self.assertEqual((how_many_with_row((0, 4, 2)), how_many_with_row((0, 2, 4))), (1, 2))
        self.assertEqual([str(column) for column in columns_with_row((0, 2, 4))], ["ddoodo", "doddoo"])

    def test_which_rows_are_thickness_rows(self):
        for size in (1, 2, 3, 4):
            rows = words_by_row(size)
            for row in product(range(0, 2 * size + 1), repeat=size):
                fault = thickness_fault(row)
                self.assertEqual(fault is None, row in rows)
                if fault is not None:
                    if any(number % 2 for number in row):
                        self.assertEqual(fault, "odd")
                    else:
                        self.assertEqual(fault, "sum" if sum(row) != 2 * size else "gap")
                    self.raises(BadRow, {"what": fault}, how_many_with_row, row)
        for size in (5, 6):
            rows = words_by_row(size)
            for row in product(range(0, 2 * size + 1, 2), repeat=size):
                if sum(row) == 2 * size:
                    self.assertEqual(thickness_fault(row), None if row in rows else "gap")

    def test_columns_of_all_sizes(self):
        for size in range(1, 7):
            rows = words_by_row(size)
            self.assertEqual(sum(how_many_with_row(row) for row in rows), len(all_words(size)))
            for row, words in rows.items():
                self.assertIsNone(thickness_fault(row))
                self.assertEqual(how_many_with_row(row), len(words))
                self.assertEqual([column.word for column in columns_with_row(list(row))], words)
                for number, word in enumerate(words):
                    self.assertEqual(row_index(Column(word)), number)
                numbers = {0, len(words) // 2, len(words) - 1}
                for number in numbers:
                    self.assertEqual(column_with_row(row, number), Column(words[number]))
                for number in (-1, len(words), 10 ** 20):
                    self.raises(NoSuch, {"number": number}, column_with_row, row, number)

    def test_the_first_ones(self):
        self.assertEqual(next(columns_with_row([0, 0, 0, 2, 4, 6])).word, min(words_by_row(6)[(0, 0, 0, 2, 4, 6)]))
        self.assertEqual(len(list(islice(columns_with_row((0, 0, 0, 2, 4, 6)), 3))), 3)

    def test_lists_are_not_changed(self):
        row = [0, 2, 4]
        self.assertEqual((how_many_with_row(row), thickness_fault(row), column_with_row(row, 1).word), (2, None, "doddoo"))
        self.assertEqual(row, [0, 2, 4])
        found = columns_with_row(row)
        next(found)
        row[:] = [2, 2, 2]
        self.assertEqual([column.word for column in found], ["doddoo"])


class FaultsTest(Raises, unittest.TestCase):
    def refused(self, row, what):
        self.assertEqual(thickness_fault(row), what)
        self.raises(BadRow, {"what": what}, how_many_with_row, row)
        self.raises(BadRow, {"what": what}, column_with_row, row, None)
        self.raises(BadRow, {"what": what}, lambda told: next(columns_with_row(told)), row)

    def test_row(self):
        for thing in (*NO_SEQUENCES, (), [], (2,) * 7, [0] * 7, "22"):
            self.refused(thing, "row")
        for thing in (*NO_NUMBERS, -1, -2, 13, 14, 10 ** 20, Anything()):
            self.refused((thing, 2), "row")
            self.refused([2, 1, thing], "row")

    def test_odd(self):
        for row in ((1,), (3,), (2, 1), [1, 3], (2, 2, 11), (0, 1, 0)):
            self.refused(row, "odd")

    def test_sum(self):
        for row in ((0,), (4,), [2, 4], (0, 0), (4, 0, 0), (12,) * 6):
            self.refused(row, "sum")

    def test_gap(self):
        for row in ((4, 0), [2, 0, 4], (6, 0, 0), (0, 6, 0), (2, 0, 0, 6), (0, 4, 0, 4)):
            self.refused(row, "gap")

    def test_numbers(self):
        for thing in (*NO_NUMBERS, -1, 2, Anything()):
            self.raises(NoSuch, {"number": thing}, column_with_row, (0, 2, 4), thing)
        self.assertEqual(column_with_row((2,), 0), Column("do"))
