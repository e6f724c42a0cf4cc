import random
import unittest
from itertools import combinations

from helpers import (NO_NUMBERS, NO_SEQUENCES, NO_WORDS, Anything, Raises, all_strips, all_words, slow_verdict,
                     slow_writes, some_book)
from slitstairs.bookmends import changed_book, is_good_book, least_mends
from slitstairs.books import Book
from slitstairs.errors import BadChange, BadPool, BadVerdict
from slitstairs.verdicts import VERDICTS
from test_verdicts import NO_VERDICTS

BOOK = Book(2, 3, 0, [(0, "ddoo", 1), (1, "dodo", 2), (1, "ddoo", 2), (2, "dodo", 2)], [0, 2])
NO_CHANGES = (*NO_SEQUENCES, (), ("word",), ("drop",), ("end",), ("word", 0), ("word", 0, "ddoo", 1), ("drop", 0, 1),
              ("end", 0, 0), ("Word", 0, "ddoo"), ("other", 0), (0, "drop"), (None, 0), (True, 0, "ddoo"),
              (Anything(), 0), (Anything(), 0, "ddoo"), "word", "drop", ["end", [0]])


def slow_good(book, verdict, most):
    """Whether the book writes a strip up to a width, and every one has the verdict."""
    strips = [strip for width in range(1, most + 1) for strip in all_strips(book.words, width)
              if slow_writes(book, strip)]
    return bool(strips) and all(slow_verdict(strip, verdict) for strip in strips)


class ChangedBookTest(Raises, unittest.TestCase):
    def test_each_change(self):
        self.assertEqual(BOOK.arrows, ((0, "ddoo", 1), (1, "ddoo", 2), (1, "dodo", 2), (2, "dodo", 2)))
        told = {
            (): BOOK.arrows,
            (("word", 0, "dodo"),): ((0, "dodo", 1), *BOOK.arrows[1:]),
            (("word", 0, "ddoo"),): BOOK.arrows,
            (("drop", 3),): BOOK.arrows[:3],
            (("drop", 0), ("word", 3, "ddoo"), ("drop", 2)): ((1, "ddoo", 2), (2, "ddoo", 2)),
        }
        for changes, arrows in told.items():
            for each in (changes, list(changes), [list(change) for change in changes], changes[::-1]):
                self.assertEqual(changed_book(BOOK, each), Book(2, 3, 0, arrows, [0, 2]))

    def test_ends(self):
        self.assertEqual(changed_book(BOOK, [("end", 0)]), Book(2, 3, 0, BOOK.arrows, [2]))
        self.assertEqual(changed_book(BOOK, (["end", 2], ("end", 0))), Book(2, 3, 0, BOOK.arrows, []))
        self.assertEqual(changed_book(BOOK, [("end", 2), ("drop", 2)]).ends, (0,))

    def test_arrows_that_become_equal_are_one(self):
        self.assertEqual(changed_book(BOOK, [("word", 1, "dodo")]).arrows,
                         ((0, "ddoo", 1), (1, "dodo", 2), (2, "dodo", 2)))
        # The numbers are those of the book that was passed.
        self.assertEqual(changed_book(BOOK, [("word", 1, "dodo"), ("drop", 2)]).arrows,
                         ((0, "ddoo", 1), (1, "dodo", 2), (2, "dodo", 2)))
        self.assertEqual(changed_book(BOOK, [("word", 1, "dodo"), ("word", 2, "ddoo")]), BOOK)

    def test_nothing_passed_changes(self):
        changes = [["word", 1, "dodo"], ["end", 0]]
        before = Book(2, 3, 0, BOOK.arrows, BOOK.ends)
        changed_book(BOOK, changes)
        self.assertEqual((changes, BOOK), ([["word", 1, "dodo"], ["end", 0]], before))

    def refused(self, index, what, changes):
        self.raises(BadChange, {"index": index, "what": what}, changed_book, BOOK, changes)

    def test_wrong_changes(self):
        for thing in NO_SEQUENCES:
            self.refused(0, "changes", thing)
        for thing in NO_CHANGES:
            self.refused(0, "change", [thing, None])
            self.refused(2, "change", (("drop", 0), ("end", 2), thing))
        for number in (*NO_NUMBERS, -1, 4, 10 ** 20):
            self.refused(0, "change", [("word", number, "ddoo")])
            self.refused(1, "change", [("drop", 0), ("drop", number)])
        for word in (*NO_WORDS, "do", "dddooo"):
            self.refused(0, "change", [("word", 0, word)])
        for room in (*NO_NUMBERS, -1, 1, 3):
            self.refused(0, "change", [("end", room)])

    def test_again(self):
        self.refused(1, "again", [("drop", 0), ("drop", 0), None])
        self.refused(2, "again", [("drop", 0), ("end", 0), ("word", 0, "ddoo"), None])
        self.refused(1, "again", [("word", 1, "ddoo"), ["word", 1, "dodo"]])
        self.refused(1, "again", [("end", 2), ("end", 2)])
        self.assertEqual(len(changed_book(BOOK, [("drop", 0), ("end", 0), ("word", 2, "dodo"), ("end", 2)])), 3)


class IsGoodBookTest(Raises, unittest.TestCase):
    def test_by_hand(self):
        pair = Book.of_strip("ddoododo", "dododdoo")
        self.assertEqual([is_good_book(pair, verdict) for verdict in VERDICTS], [False, True, True, False, True])
        either = Book.of_any("dododo", "ddoodo")
        self.assertEqual([is_good_book(either, verdict) for verdict in VERDICTS], [False] * 5)
        for book in (Book(2, 1, 0, (), [0]), Book(2, 2, 0, [(0, "ddoo", 0)], [1])):
            self.assertEqual([is_good_book(book, verdict) for verdict in VERDICTS], [False] * 5)

    def test_against_all_strips(self):
        chance = random.Random(15)
        good = 0
        for size in (2, 3, 4):
            for rooms in (2, 3):
                for _ in range(12):
                    book = some_book(chance, size, rooms, 3, Book)
                    for verdict in VERDICTS:
                        found = is_good_book(book, verdict)
                        self.assertIs(found.__class__, bool)
                        good += found
                        if found:
                            self.assertTrue(slow_good(book, verdict, 5) or book.earliest() is None)
                        elif book.earliest() is not None and len(book.words) < 3:
                            self.assertFalse(slow_good(book, verdict, 5))
        self.assertGreater(good, 10)

    def test_wrong_verdicts(self):
        for thing in NO_VERDICTS:
            self.raises(BadVerdict, {"verdict": thing}, is_good_book, BOOK, thing)


class LeastMendsTest(Raises, unittest.TestCase):
    def test_the_example(self):
        row = Book.of_strip("dododo", "dddooo")
        pool = (("word", 0, "dddooo"), ("word", 1, "dododo"), ("word", 1, "ddoodo"))
        self.assertEqual(least_mends(row, pool), ((0,), (2,)))
        self.assertEqual(least_mends(row, [list(change) for change in pool]), ((0,), (2,)))
        self.assertEqual(least_mends(row, pool, verdict="stuck"), ((),))
        self.assertEqual(least_mends(row, pool, verdict="opens"), ((0,), (2,)))
        self.assertEqual(least_mends(row, pool, verdict="parted"), ())

    def test_against_all_lots(self):
        chance = random.Random(16)
        lengths = set()
        for size in (3, 4):
            for _ in range(60):
                book = some_book(chance, size, chance.randrange(2, 4), 4, Book)
                if not book.arrows:
                    continue
                pool = self.some_pool(chance, book)
                verdict = chance.choice(VERDICTS)
                found = least_mends(book, pool, verdict=verdict)
                self.assertEqual(found, self.slow_mends(book, pool, verdict))
                lengths.update(len(mend) for mend in found)
        self.assertLessEqual({0, 1}, lengths)

    def some_pool(self, chance, book):
        changes = [("word", k, chance.choice(all_words(book.size))) for k in range(len(book))]
        changes += [("word", chance.randrange(len(book)), chance.choice(all_words(book.size))) for _ in range(2)]
        changes += [("drop", k) for k in range(len(book))] + [("end", room) for room in book.ends]
        return [chance.choice(changes) for _ in range(chance.randrange(1, 6))]

    def slow_mends(self, book, pool, verdict):
        mends = []
        for many in range(len(pool) + 1):
            for lot in combinations(range(len(pool)), many):
                try:
                    changed = changed_book(book, [pool[place] for place in lot])
                except BadChange:
                    continue
                if is_good_book(changed, verdict) and not any(set(mend) < set(lot) for mend in mends):
                    mends.append(lot)
        return tuple(mends)

    def test_a_lot_that_holds_a_mend_need_not_be_one(self):
        row = Book.of_strip("dododo", "dddooo")
        pool = [("word", 0, "dddooo"), ("word", 1, "ddoodo"), ("drop", 0)]
        self.assertEqual(least_mends(row, pool), ((0,), (1,)))
        either = Book(3, 3, 0, [(0, "dododo", 1), (0, "dddooo", 2)], [1, 2])
        # Taking out both ends is no mend: then the book writes nothing.
        pool = [("end", 1), ("end", 2), ("drop", 1), ("word", 1, "dddooo")]
        self.assertEqual(least_mends(either, pool), ((0,), (2,), (3,)))
        self.assertEqual(least_mends(either, pool, verdict="sways"), ((1,),))

    def test_two_changes_together(self):
        row = Book.of_strip("dododo", "dododo")
        pool = [("word", 1, "dddooo"), ("word", 0, "dododo"), ("word", 0, "dddooo"), ("end", 2)]
        self.assertEqual(least_mends(row, pool), ((0, 2),))
        self.assertEqual(least_mends(row, [pool[2], pool[0], pool[0]]), ((0, 1), (0, 2)))
        self.assertEqual(least_mends(row, pool, verdict="sways"), ((),))
        self.assertEqual(least_mends(row, [("word", 0, "ddoodo"), *pool]), ((0,), (1, 3)))

    def test_wrong_pools(self):
        for thing in (*NO_SEQUENCES, (), [], [("drop", 0)] * 6, [None] * 6):
            self.raises(BadPool, {"index": 0, "what": "pool"}, least_mends, BOOK, thing)
        for thing in (*NO_CHANGES, ("drop", 4), ("end", 1), ("word", 0, "do")):
            self.raises(BadPool, {"index": 0, "what": "change"}, least_mends, BOOK, [thing, None])
            self.raises(BadPool, {"index": 1, "what": "change"}, least_mends, BOOK, (("drop", 0), thing), verdict="opens")

    def test_several_items_may_change_the_same_arrow(self):
        self.assertEqual(least_mends(Book.of_strip("ddoo"), [("drop", 0)] * 5), ((),))

    def test_wrong_verdicts(self):
        for thing in NO_VERDICTS:
            self.raises(BadVerdict, {"verdict": thing}, least_mends, BOOK, None, verdict=thing)

    def test_the_verdict_is_passed_by_keyword(self):
        with self.assertRaises(TypeError):
            least_mends(BOOK, [("drop", 0)], "follows")
