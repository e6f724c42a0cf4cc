import unittest

from helpers import NO_NUMBERS, NO_SEQUENCES, Anything, Raises
from slitstairs.errors import BadPlace, BadPrint, BadSize
from slitstairs.prints import Print

INKS = ((1, 2, 3, 4), (5, 6, 7, 8), (-9, 0, 10 ** 20, 3))


class PrintTest(unittest.TestCase):
    def test_attributes(self):
        printed = Print(INKS)
        self.assertEqual(vars(printed), {"inks": INKS, "size": 2, "width": 3})
        printed = Print([[0, 0]])
        self.assertEqual((printed.inks, printed.size, printed.width), (((0, 0),), 1, 1))
        printed = Print([[7] * 12] * 12)
        self.assertEqual((printed.size, printed.width), (6, 12))

    def test_lists_are_not_kept(self):
        rows = [[1, 2], [3, 4]]
        printed = Print(rows)
        rows[0][0] = 9
        rows.append([5, 6])
        self.assertEqual(printed.inks, ((1, 2), (3, 4)))
        self.assertEqual({part.__class__ for part in (printed.inks, *printed.inks)}, {tuple})

    def test_length_and_iteration(self):
        printed = Print([list(row) for row in INKS])
        self.assertEqual((len(printed), tuple(printed), list(printed)), (3, INKS, list(INKS)))

    def test_equality(self):
        self.assertEqual(Print(INKS), Print([list(row) for row in INKS]))
        for other in (Print(INKS[:2]), Print(INKS[::-1]), Print([row[:2] for row in INKS]), INKS, None):
            self.assertFalse(Print(INKS) == other)
            self.assertTrue(Print(INKS) != other)
        self.assertIs(Print(INKS).__eq__(Anything()), False)

    def test_mirrored_and_turned(self):
        printed = Print(INKS)
        self.assertEqual(printed.mirrored(), Print(((4, 3, 2, 1), (8, 7, 6, 5), (3, 10 ** 20, 0, -9))))
        self.assertEqual(printed.turned(), Print(INKS[::-1]))
        self.assertEqual((printed.mirrored().mirrored(), printed.turned().turned()), (printed, printed))
        self.assertEqual(printed.inks, INKS)

    def test_with_ink(self):
        printed = Print(INKS)
        self.assertEqual(printed.with_ink(1, 3, -5), Print((INKS[0], (5, 6, 7, -5), INKS[2])))
        self.assertEqual(printed.with_ink(0, 0, 1), printed)
        self.assertIsNot(printed.with_ink(0, 0, 1), printed)
        self.assertEqual(printed.with_ink(2, 0, 10 ** 40).inks[2], (10 ** 40, 0, 10 ** 20, 3))
        self.assertEqual(printed.inks, INKS)

    def test_plain(self):
        self.assertEqual(Print.plain(2, 3), Print([[0] * 4] * 3))
        self.assertEqual(Print.plain(1, 2, -4), Print([[-4, -4], [-4, -4]]))
        self.assertEqual(Print.plain(size=6, width=12, ink=10 ** 30), Print([[10 ** 30] * 12] * 12))

    def test_alone(self):
        self.assertEqual(Print.alone(2, 2, 1, 0), Print([[0, 0, 0, 0], [1, 0, 0, 0]]))
        self.assertEqual(Print.alone(1, 1, 0, 1), Print([[0, 1]]))
        for column in range(12):
            for step in range(12):
                rows = [[int((c, t) == (column, step)) for t in range(12)] for c in range(12)]
                self.assertEqual(Print.alone(6, 12, column, step), Print(rows))


class RefusedTest(Raises, unittest.TestCase):
    def refused(self, index, what, inks):
        self.raises(BadPrint, {"index": index, "what": what}, Print, inks)

    def test_rows(self):
        for thing in (*NO_SEQUENCES, (), [], [[0, 0]] * 13, [None] * 13):
            self.refused(0, "rows", thing)

    def test_row(self):
        for thing in (*NO_SEQUENCES, (), (1,), [1, 2, 3], [0] * 11, [0] * 13, [0] * 14, [None]):
            self.refused(0, "row", [thing])
            self.refused(2, "row", [(1, 2), [3, 4], thing, None])

    def test_size(self):
        self.refused(1, "size", [(1, 2), (1, 2, 3, 4), None])
        self.refused(2, "size", [(1, 2, 3, 4), (1, 2, 3, 4), (1, 2)])
        self.refused(1, "size", [(1, 2), (None, None, None, None)])

    def test_ink(self):
        for thing in (*NO_NUMBERS, Anything()):
            self.refused(0, "ink", [(thing, 1)])
            self.refused(1, "ink", [(1, 2), [1, thing], None])
            self.refused(0, "ink", [(1, 2, 3, thing), (1, 2)])

    def test_with_ink(self):
        printed = Print(INKS)
        for column in (*NO_NUMBERS, -1, 3, 10 ** 20):
            self.raises(BadPlace, {"column": column, "step": 0}, printed.with_ink, column, 0, 1)
            self.raises(BadPlace, {"column": column, "step": 9}, printed.with_ink, column, 9, None)
        for step in (*NO_NUMBERS, -1, 4, 10 ** 20):
            self.raises(BadPlace, {"column": 2, "step": step}, printed.with_ink, 2, step, None)
        for ink in (*NO_NUMBERS, Anything()):
            for column in range(3):
                self.raises(BadPrint, {"index": column, "what": "ink"}, printed.with_ink, column, 3, ink)

    def test_plain_and_alone(self):
        for size in (*NO_NUMBERS, 0, -1, 7):
            self.raises(BadSize, {"size": size}, Print.plain, size, None, None)
            self.raises(BadSize, {"size": size}, Print.alone, size, None, None, None)
        for width in (*NO_NUMBERS, 0, -1, 13):
            self.raises(BadPrint, {"index": 0, "what": "rows"}, Print.plain, 2, width, None)
            self.raises(BadPrint, {"index": 0, "what": "rows"}, Print.alone, 2, width, None, None)
        for ink in (*NO_NUMBERS, Anything()):
            self.raises(BadPrint, {"index": 0, "what": "ink"}, Print.plain, 2, 3, ink)
        for thing in (*NO_NUMBERS, -1, 4):
            self.raises(BadPlace, {"column": thing, "step": 3}, Print.alone, 2, 3, thing, 3)
            self.raises(BadPlace, {"column": 2, "step": thing}, Print.alone, 2, 3, 2, thing)
        self.raises(BadPlace, {"column": 3, "step": 0}, Print.alone, 2, 3, 3, 0)
