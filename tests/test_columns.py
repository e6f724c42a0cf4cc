import unittest

from helpers import NO_NUMBERS, NO_SEQUENCES, Anything, Raises, all_words, heights_of
from slitstairs.columns import MOST_SIZE, Column, common_steps, is_whole, word_fault
from slitstairs.errors import BadBoundary, BadColumn, BadHeights

PLAIN = "ddddddoooooo"
STEEP = "dodododododo"


class NumbersTest(unittest.TestCase):
    def test_most_size(self):
        self.assertEqual(MOST_SIZE, 6)

    def test_whole_numbers_in_their_range(self):
        for number in (2, 3, 4):
            self.assertIs(is_whole(number, 2, 4), True)
        self.assertIs(is_whole(-3, -3, -3), True)
        self.assertIs(is_whole(10 ** 299, 0, 10 ** 300), True)

    def test_whole_numbers_out_of_their_range(self):
        for number in (1, 5, -3, 10 ** 299):
            self.assertIs(is_whole(number, 2, 4), False)
        self.assertIs(is_whole(0, 0, -1), False)

    def test_things_of_other_kinds(self):
        for thing in (*NO_NUMBERS, 2.0, [2], "2", Anything()):
            with self.subTest(thing):
                self.assertIs(is_whole(thing, 0, 4), False)


class WordFaultTest(unittest.TestCase):
    def test_words(self):
        for size in range(1, 7):
            for word in all_words(size):
                self.assertIsNone(word_fault(word))

    def test_no_strings_of_letters(self):
        things = ("", "d", "o", "ddx", "DO", "do ", "do\n", "d" * 7 + "o" * 6, "do" * 7, "xyz")
        for thing in (*things, None, True, 5, ["d", "o"], ("d", "o"), b"do", {"d": 1, "o": 2}):
            with self.subTest(thing):
                self.assertEqual(word_fault(thing), "word")

    def test_counts(self):
        for thing in ("dd", "oo", "ddo", "ood", "oodoo", "d" * 12, "d" * 7 + "o" * 5):
            with self.subTest(thing):
                self.assertEqual(word_fault(thing), "count")

    def test_below(self):
        for thing in ("od", "dood", "oodd", "ddooodod", "o" * 6 + "d" * 6):
            with self.subTest(thing):
                self.assertEqual(word_fault(thing), "below")

    def test_the_first_word_that_applies(self):
        self.assertEqual(word_fault("oox"), "word")
        self.assertEqual(word_fault("o" * 13), "word")
        self.assertEqual(word_fault("odo"), "count")


class ColumnTest(Raises, unittest.TestCase):
    def test_attributes(self):
        column = Column("ddodoo")
        self.assertEqual((column.word, column.size), ("ddodoo", 3))
        self.assertEqual((Column("do").size, Column(PLAIN).size), (1, 6))

    def test_refused_words(self):
        for thing in (*NO_NUMBERS, "d", "dx", "do" * 7, ["d", "o"]):
            with self.subTest(thing):
                self.raises(BadColumn, {"what": "word"}, Column, thing)
        self.raises(BadColumn, {"what": "count"}, Column, "ood")
        self.raises(BadColumn, {"what": "below"}, Column, "dood")

    def test_str_len_and_letters(self):
        column = Column("ddodoo")
        self.assertEqual((str(column), len(column), list(column)), ("ddodoo", 6, list("ddodoo")))
        self.assertEqual((len(Column("do")), len(Column(PLAIN))), (2, 12))

    def test_equality(self):
        self.assertTrue(Column("ddoo") == Column("ddoo"))
        self.assertFalse(Column("ddoo") != Column("ddoo"))
        for other in (Column("dodo"), Column("do"), "ddoo", ["d", "d", "o", "o"], None, 4, Anything()):
            with self.subTest(other):
                self.assertIs(Column("ddoo") == other, False)

    def test_methods_stand_in_the_class(self):
        for name in ("many", "place", "height", "mirrored", "of_heights", "heights", "places", "runs", "creases",
                     "hollows", "ridges", "__eq__", "__str__", "__len__", "__iter__"):
            self.assertIn(name, vars(Column))

    def test_boundaries(self):
        column = Column("ddodoo")
        self.assertEqual([column.many("d", t) for t in range(7)], [0, 1, 2, 2, 3, 3, 3])
        self.assertEqual([column.many("o", t) for t in range(7)], [0, 0, 0, 1, 1, 2, 3])
        self.assertEqual(column.places, ((0, 3), (0, 2), (0, 1), (1, 1), (1, 0), (2, 0), (3, 0)))
        self.assertEqual(column.heights, (0, 1, 2, 1, 2, 1, 0))

    def test_each_boundary_of_each_column(self):
        for size in range(1, 7):
            for word in all_words(size):
                column = Column(word)
                self.assertEqual(column.heights, tuple(heights_of(word)))
                self.assertEqual(column.heights, tuple(column.height(t) for t in range(2 * size + 1)))
                self.assertEqual(column.places, tuple(column.place(t) for t in range(2 * size + 1)))
                self.assertEqual((column.places[0], column.places[-1]), ((0, size), (size, 0)))
                for t, (x, y) in enumerate(column.places):
                    self.assertEqual((x, y), (word[:t].count("o"), size - word[:t].count("d")))
                    self.assertEqual((size - x - y, t - size), (column.heights[t], x - y))

    def test_no_boundaries(self):
        column = Column("ddoo")
        for boundary in (*NO_NUMBERS, -1, 5, 10 ** 20):
            with self.subTest(boundary):
                self.raises(BadBoundary, {"boundary": boundary}, column.many, "d", boundary)
                self.raises(BadBoundary, {"boundary": boundary}, column.place, boundary)
                self.raises(BadBoundary, {"boundary": boundary}, column.height, boundary)

    def test_runs_and_creases(self):
        column = Column("ddodoo")
        self.assertEqual(column.runs, (("d", 0, 2), ("o", 2, 1), ("d", 3, 1), ("o", 4, 2)))
        self.assertEqual(column.creases, ((2, "hollow"), (3, "ridge"), (4, "hollow")))
        self.assertEqual((column.hollows, column.ridges), (2, 1))

    def test_runs_and_creases_at_the_edges(self):
        self.assertEqual(Column("do").runs, (("d", 0, 1), ("o", 1, 1)))
        self.assertEqual(Column("do").creases, ((1, "hollow"),))
        self.assertEqual(Column(PLAIN).runs, (("d", 0, 6), ("o", 6, 6)))
        self.assertEqual((Column(PLAIN).hollows, Column(PLAIN).ridges), (1, 0))
        self.assertEqual(Column(STEEP).runs, tuple((letter, t, 1) for t, letter in enumerate(STEEP)))
        self.assertEqual((Column(STEEP).hollows, Column(STEEP).ridges), (6, 5))

    def test_runs_make_the_word_and_creases_part_them(self):
        for size in range(1, 7):
            for word in all_words(size):
                column = Column(word)
                self.assertEqual("".join(letter * many for letter, first, many in column.runs), word)
                self.assertEqual([first for letter, first, many in column.runs[1:]], [t for t, kind in column.creases])
                for t, kind in column.creases:
                    self.assertEqual(kind, {"do": "hollow", "od": "ridge"}[word[t - 1:t + 1]])
                kinds = [kind for t, kind in column.creases]
                self.assertEqual((kinds.count("hollow"), kinds.count("ridge")), (column.hollows, column.ridges))
                self.assertEqual(column.hollows, column.ridges + 1)

    def test_mirrored(self):
        self.assertEqual(Column("dddoodoo").mirrored().word, "ddoddooo")
        for size in range(1, 7):
            for word in all_words(size):
                column = Column(word)
                mirrored = column.mirrored()
                self.assertEqual(mirrored.heights, column.heights[::-1])
                self.assertEqual(mirrored.places, tuple((y, x) for x, y in column.places[::-1]))
                self.assertEqual(mirrored.mirrored(), column)
                self.assertEqual(column.word, word)

    def test_common_steps(self):
        self.assertEqual(common_steps(Column("dddooo"), Column("ddodoo")), (0, 1, 4, 5))
        self.assertEqual(common_steps(Column("do"), Column("do")), (0, 1))


class OfHeightsTest(Raises, unittest.TestCase):
    def test_each_column(self):
        for size in range(1, 7):
            for word in all_words(size):
                heights = heights_of(word)
                self.assertEqual(Column.of_heights(heights), Column(word))
                self.assertEqual(Column.of_heights(tuple(heights)), Column(word))
                self.assertEqual(Column(word).of_heights(heights).word, word)

    def test_the_list_is_not_changed(self):
        heights = [0, 1, 2, 1, 0]
        column = Column.of_heights(heights)
        self.assertEqual(heights, [0, 1, 2, 1, 0])
        heights[2] = 0
        self.assertEqual(column.heights, (0, 1, 2, 1, 0))

    def check(self, heights, index, what):
        with self.subTest(heights):
            self.raises(BadHeights, {"index": index, "what": what}, Column.of_heights, heights)
            if isinstance(heights, list):
                self.raises(BadHeights, {"index": index, "what": what}, Column.of_heights, tuple(heights))

    def test_no_rows_of_heights(self):
        for thing in (*NO_SEQUENCES, [], [0], [0, 1], [0, 1, 2, 1], [0, 1] * 7, [0, 1] * 7 + [0]):
            self.check(thing, 0, "heights")

    def test_no_numbers(self):
        for thing in NO_NUMBERS:
            self.check([thing, 1, 0], 0, "number")
            self.check([0, thing, 0], 1, "number")
            self.check([0, 1, thing], 2, "number")

    def test_start(self):
        for height in (1, -1, 2):
            self.check([height, 1, 0], 0, "start")

    def test_step(self):
        self.check([0, 0, 1], 1, "step")
        self.check([0, 2, 1], 1, "step")
        self.check([0, 1, 3], 2, "step")
        self.check([0, 1, -1], 2, "step")
        self.check([0, -2, 1], 1, "step")

    def test_below(self):
        self.check([0, -1, 0], 1, "below")
        self.check([0, 1, 0, -1, 0], 3, "below")
        self.check([0, 1, 0, 1, 0, 1, 0, -1, 0, 1, 0, 1, 0], 7, "below")

    def test_end(self):
        self.check([0, 1, 2], 2, "end")
        self.check(list(range(13)), 12, "end")

    def test_what_comes_first(self):
        self.check([0, True], 0, "heights")
        self.check([None, 5, 7], 0, "number")
        self.check([1, None, 0], 0, "start")
        self.check([0, -1, None], 1, "below")
        self.check([0, 5, None], 1, "step")
        self.check([0, 1, 2, 3, "0"], 4, "number")
        self.check([0, 1, 2, 1, 2, 1, -1], 6, "step")
