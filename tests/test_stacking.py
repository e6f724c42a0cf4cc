import time
import unittest
from itertools import permutations
from math import factorial

from helpers import NO_NUMBERS, NO_SEQUENCES, Raises, all_words, heights_of
from slitstairs.columns import Column
from slitstairs.errors import BadStack
from slitstairs.stacking import fewest_pulls, fewest_rows, how_many_fewest, pulled_column


def all_pulls(word):
    """All pulls of a word with the words that they make, found by going through all swaps of two rows of letters."""
    for boundary in range(1, len(word)):
        for downs in range(1, boundary + 1):
            for outs in range(1, len(word) - boundary + 1):
                first, last = boundary - downs, boundary + outs
                if word[first:boundary] == "d" * downs and word[boundary:last] == "o" * outs:
                    made = word[:first] + "o" * outs + "d" * downs + word[last:]
                    if min(heights_of(made)) >= 0:
                        yield (boundary, downs, outs), made


def ridges_of(word):
    return [t for t in range(1, len(word)) if word[t - 1:t + 1] == "od"]


class PulledColumnTest(unittest.TestCase):
    def pulled(self, word, *pulls):
        return pulled_column(Column(word), *pulls).word

    def test_pulls(self):
        self.assertEqual(self.pulled("dddooo", (3, 1, 1)), "ddodoo")
        self.assertEqual(self.pulled("dddooo", (3, 2, 1)), "doddoo")
        self.assertEqual(self.pulled("dddooo", (3, 1, 2)), "ddoodo")
        self.assertEqual(self.pulled("dddooo", (3, 1, 1), (2, 1, 1), (4, 1, 1)), "dododo")
        self.assertEqual(self.pulled("ddoodo", (2, 1, 1)), "dododo")
        self.assertEqual(self.pulled("ddddddoooooo", (6, 2, 4)), "ddddooooddoo")

    def test_no_pull(self):
        column = Column("ddoodo")
        found = pulled_column(column)
        self.assertEqual(found, column)
        self.assertIsNot(found, column)

    def test_lists_may_be_passed_and_are_not_kept(self):
        column, pull = Column("dddooo"), [3, 1, 1]
        found = pulled_column(column, pull)
        pull[0] = 7
        self.assertEqual((found.word, column.word), ("ddodoo", "dddooo"))

    def test_all_pulls(self):
        for size in range(1, 6):
            for word in all_words(size):
                for pull, made in all_pulls(word):
                    self.assertEqual(self.pulled(word, pull), made)


class RefusedTest(Raises, unittest.TestCase):
    def refused(self, index, what, word, *pulls):
        self.raises(BadStack, {"index": index, "what": what}, pulled_column, Column(word), *pulls)

    def test_pull(self):
        for thing in (*NO_SEQUENCES, "311", (), (3, 1), [3, 1, 1, 1], (3, 0, 1), (3, 1, 0), (3, -1, 1), [3, 1, -1]):
            self.refused(0, "pull", "dddooo", thing)
        for thing in NO_NUMBERS:
            self.refused(0, "pull", "dddooo", (thing, 1, 1))
            self.refused(0, "pull", "dddooo", (3, thing, 1))
            self.refused(0, "pull", "dddooo", [3, 1, thing])

    def test_crease(self):
        for boundary in (-3, -1, 0, 1, 2, 4, 5, 6, 7, 100, 10 ** 20):
            self.refused(0, "crease", "dddooo", (boundary, 1, 1))
        self.refused(0, "crease", "ddodoo", (3, 1, 1))

    def test_run(self):
        self.refused(0, "run", "dddooo", (3, 4, 1))
        self.refused(0, "run", "dddooo", (3, 1, 4))
        self.refused(0, "run", "ddodoo", (2, 1, 2))
        self.refused(0, "run", "ddodoo", (4, 2, 1))
        self.refused(0, "run", "dddooo", (3, 10 ** 20, 1))

    def test_boards(self):
        self.refused(0, "boards", "dddooo", (3, 2, 2))
        self.refused(0, "boards", "dddooo", (3, 3, 1))
        self.refused(0, "boards", "do", (1, 1, 1))
        self.refused(0, "boards", "ddodoo", (4, 1, 2))

    def test_which_comes_first(self):
        self.refused(0, "pull", "dddooo", (9, 9, 0), None)
        self.refused(0, "crease", "dddooo", (2, 9, 9))
        self.refused(0, "run", "dddooo", (3, 4, 4))
        self.refused(1, "crease", "dddooo", (3, 1, 1), (3, 1, 1), None)
        self.refused(1, "run", "dddooo", (3, 1, 1), (2, 3, 1), (1, 1, 1))
        self.refused(2, "pull", "dddooo", (3, 1, 1), (2, 1, 1), (4, 1))
        self.refused(3, "boards", "dddooo", (3, 1, 1), (2, 1, 1), (4, 1, 1), (1, 1, 1))

    def test_all_small_pulls(self):
        for word in all_words(4):
            right = {pull for pull, _ in all_pulls(word)}
            for boundary in range(-1, 10):
                for downs in range(1, 6):
                    for outs in range(1, 6):
                        if (boundary, downs, outs) not in right:
                            what = "boards"
                            if word[max(boundary - 1, 0):boundary + 1] != "do" or boundary < 1:
                                what = "crease"
                            elif (word[max(boundary - downs, 0):boundary] != "d" * downs
                                    or word[boundary:boundary + outs] != "o" * outs):
                                what = "run"
                            self.refused(0, what, word, (boundary, downs, outs))


class FewestTest(unittest.TestCase):
    def test_least_numbers_by_going_through_all_rows(self):
        for size in range(1, 5):
            ways = {"d" * size + "o" * size: [()]}
            seen = {}
            while ways:
                seen.update(ways)
                nexts = {}
                for word, rows in ways.items():
                    for pull, made in all_pulls(word):
                        if made not in seen:
                            nexts.setdefault(made, []).extend((*row, pull) for row in rows)
                ways = nexts
            self.assertEqual(sorted(seen), sorted(all_words(size)))
            for word, rows in seen.items():
                column = Column(word)
                ridges = len(ridges_of(word))
                self.assertEqual({len(row) for row in rows}, {ridges})
                self.assertEqual(sorted(fewest_rows(column)), sorted(rows))
                self.assertEqual(how_many_fewest(column), len(rows))

    def undo(self, word, ridge):
        outs = len(word[:ridge]) - len(word[:ridge].rstrip("o"))
        downs = len(word[ridge:]) - len(word[ridge:].lstrip("d"))
        made = word[:ridge - outs] + "d" * downs + "o" * outs + word[ridge + downs:]
        return (ridge - outs + downs, downs, outs), made

    def rows_by_undoing(self, word):
        ridges = ridges_of(word)
        for order in permutations(range(len(ridges))):
            now, row = word, []
            for number in reversed(order):
                pull, now = self.undo(now, ridges[number])
                row.insert(0, pull)
            yield tuple(row)

    def test_orders_ascending(self):
        for size in range(1, 7):
            for word in all_words(size)[::1 if size < 6 else 7]:
                rows = list(fewest_rows(Column(word)))
                self.assertEqual(rows, list(self.rows_by_undoing(word)))
                self.assertEqual(len(rows), how_many_fewest(Column(word)))
                self.assertEqual(how_many_fewest(Column(word)), factorial(len(ridges_of(word))))
                for row in rows[:6]:
                    self.assertEqual(pulled_column(Column("d" * size + "o" * size), *row).word, word)
                    self.assertEqual({pull.__class__ for pull in (row, *row)}, {tuple})

    def test_fewest_pulls(self):
        self.assertEqual(fewest_pulls(Column("dddooo")), ())
        self.assertEqual(fewest_pulls(Column("dododo")), ((3, 1, 2), (2, 1, 1)))
        self.assertEqual(list(fewest_rows(Column("dododo"))), [((3, 2, 1), (4, 1, 1)), ((3, 1, 2), (2, 1, 1))])
        for word in all_words(6):
            pulls = fewest_pulls(Column(word))
            *_, last = fewest_rows(Column(word))
            self.assertEqual(pulls, last)
            self.assertEqual(pulled_column(Column("ddddddoooooo"), *pulls).word, word)

    def test_the_lowest_box_first(self):
        # Each pull is made at a hollow of the box ahead of it or of the board, from the floor upwards.
        self.assertEqual(fewest_pulls(Column("dododododo")), ((5, 1, 4), (4, 1, 3), (3, 1, 2), (2, 1, 1)))

    def test_the_plain_column(self):
        for size in range(1, 7):
            column = Column("d" * size + "o" * size)
            self.assertEqual((list(fewest_rows(column)), how_many_fewest(column)), ([()], 1))

    def test_the_first_row_comes_at_once(self):
        began = time.perf_counter()
        self.assertEqual(len(next(fewest_rows(Column("dodododododo")))), 5)
        self.assertLess(time.perf_counter() - began, 2)
