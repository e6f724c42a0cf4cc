import random
import unittest
from fractions import Fraction

from helpers import NO_NUMBERS, NO_SEQUENCES, Anything, Raises, fraction_of, is_lowest, slow_rank
from slitstairs.errors import BadSystem, NoRow
from slitstairs.ratios import Ratio
from slitstairs.solving import Broken, Implied, System, implied_fault

MOST = 10 ** 18
DEPENDENT = ((1, 2, 3), (2, 4, 6), (0, 1, 1), (1, 3, 4))


def dot(row, numbers):
    return sum(a * b for a, b in zip(row, numbers))


def many_systems():
    """(unknowns, rows) of all kinds: without rows, rows of 0, dependent ones, small and great numbers."""
    chance = random.Random(45)
    yield 1, []
    yield 3, []
    yield 2, [(0, 0), (0, 0)]
    yield 3, DEPENDENT
    for unknowns in range(1, 13):
        for many in (0, 1, 2, unknowns - 1, unknowns, unknowns + 2):
            for most in (1, 5, MOST):
                rows = [[chance.randint(-most, most) for _ in range(unknowns)] for _ in range(many)]
                yield unknowns, rows
                if most <= 5 and rows:
                    extra = [[sum(k * number for k, number in zip((1, -2, 3), column)) for column in zip(*rows[:3])]
                             for _ in range(2)]
                    yield unknowns, [*rows[:3], *extra, *rows[3:], [0] * unknowns, rows[0]]
    # Two rows that differ in the last digit alone.
    yield 12, [[MOST] * 12, [MOST] * 11 + [MOST - 1], [-MOST] * 12]


class SystemTest(unittest.TestCase):
    def test_attributes(self):
        rows = [[1, 2], (3, 4)]
        system = System(2, rows)
        rows[0][0] = 9
        rows.append((5, 6))
        self.assertEqual((system.unknowns, system.rows), (2, ((1, 2), (3, 4))))
        self.assertEqual((System(1, ()).unknowns, System(1, ()).rows), (1, ()))

    def test_rank(self):
        self.assertEqual(System(3, DEPENDENT).rank, 2)
        self.assertEqual((System(5, []).rank, System(2, [(0, 0)]).rank, System(1, [[-7]]).rank), (0, 0, 1))
        for unknowns, rows in many_systems():
            self.assertEqual(System(unknowns, rows).rank, slow_rank(rows))

    def test_solutions(self):
        for unknowns, rows in many_systems():
            system = System(unknowns, rows)
            found = system.solutions()
            self.assertIs(found.__class__, tuple)
            self.assertEqual(len(found), unknowns - slow_rank(rows))
            for numbers in found:
                self.assertEqual((numbers.__class__, len(numbers)), (tuple, unknowns))
                self.assertTrue(is_lowest(numbers))
                self.assertEqual([dot(row, numbers) for row in rows], [0] * len(rows))
            self.assertEqual(slow_rank(found), len(found))

    def test_solutions_of_some_systems(self):
        self.assertEqual(System(3, DEPENDENT).solutions(), ((1, 1, -1),))
        self.assertEqual(System(2, [(6, -4)]).solutions(), ((2, 3),))
        self.assertEqual(System(1, ()).solutions(), ((1,),))
        self.assertEqual(System(2, [(1, 1), (1, 2)]).solutions(), ())
        self.assertEqual(System(2, [(MOST, 1 - MOST)]).solutions(), ((MOST - 1, MOST),))

    def test_more_unknowns(self):
        rows = [[0] * k + [1, -1] + [0] * (198 - k) for k in range(199)]
        system = System(200, rows + rows + [[1] + [0] * 199])
        self.assertEqual((system.rank, system.solutions()), (200, ()))
        system = System(200, rows)
        self.assertEqual((system.rank, system.solutions()), (199, ((1,) * 200,)))
        told = system.implies([1] + [0] * 198 + [-1])
        self.assertEqual([str(ratio) for ratio in told.combination], ["1"] * 199)
        self.assertEqual(System(200, [[0] * 200] * 400).rank, 0)

    def test_many_rows(self):
        chance = random.Random(400)
        rows = [[chance.randint(-MOST, MOST) for _ in range(12)] for _ in range(400)]
        system = System(12, rows)
        self.assertEqual((system.rank, system.solutions()), (12, ()))
        row = [chance.randint(-MOST, MOST) for _ in range(12)]
        self.assertIsNone(implied_fault(system, row, system.implies(row)))


class ImpliesTest(unittest.TestCase):
    def check(self, unknowns, rows, row):
        """What is told of a row, looked through without the judge."""
        system = System(unknowns, rows)
        told = system.implies(row)
        if slow_rank([*rows, row]) == slow_rank(rows):
            self.assertIs(told.__class__, Implied)
            self.assertEqual((told.combination.__class__, len(told.combination)), (tuple, len(rows)))
            self.assertLessEqual({ratio.__class__ for ratio in told.combination}, {Ratio})
            times = [fraction_of(ratio) for ratio in told.combination]
            for k in range(unknowns):
                self.assertEqual(sum((time * other[k] for time, other in zip(times, rows)), Fraction(0)), row[k])
        else:
            self.assertIs(told.__class__, Broken)
            self.assertEqual((told.numbers.__class__, len(told.numbers)), (tuple, unknowns))
            self.assertTrue(is_lowest(told.numbers))
            self.assertEqual([dot(other, told.numbers) for other in rows], [0] * len(rows))
            self.assertNotEqual(dot(row, told.numbers), 0)
        self.assertIsNone(implied_fault(system, row, told))
        return told

    def test_some_rows(self):
        self.assertEqual([str(ratio) for ratio in self.check(2, [(2, 4)], (3, 6)).combination], ["3/2"])
        self.assertEqual([str(ratio) for ratio in self.check(2, [(2, 4)], (-1, -2)).combination], ["-1/2"])
        self.assertEqual(self.check(2, [(2, 4)], [1, 1]).numbers, (2, -1))
        self.assertEqual(self.check(3, [], (0, 0, 0)).combination, ())
        self.assertEqual(self.check(3, [], (0, 0, 5)).numbers, (0, 0, 1))
        self.assertEqual([str(ratio) for ratio in self.check(2, [(0, 0), (0, 3)], (0, 0)).combination], ["0", "0"])

    def test_systems_of_all_kinds(self):
        chance = random.Random(46)
        for unknowns, rows in many_systems():
            self.check(unknowns, rows, [0] * unknowns)
            self.check(unknowns, rows, [MOST] * unknowns)
            self.check(unknowns, rows, [1] + [0] * (unknowns - 1))
            self.check(unknowns, rows, [0] * (unknowns - 1) + [-1])
            self.check(unknowns, rows, [chance.randint(-9, 9) for _ in range(unknowns)])
            for row in rows[:2]:
                self.check(unknowns, rows, row)
                self.check(unknowns, rows, [-number for number in row])
            if rows and max(abs(number) for row in rows for number in row) < 10 ** 6:
                mixed = [sum(k * row[place] for k, row in enumerate(rows, -2)) for place in range(unknowns)]
                self.assertIs(self.check(unknowns, rows, mixed).__class__, Implied)

    def test_results_keep_what_they_are_passed(self):
        self.assertEqual((vars(Implied(None)), vars(Broken("x"))), ({"combination": None}, {"numbers": "x"}))


class ImpliedFaultTest(Raises, unittest.TestCase):
    SYSTEM = System(3, DEPENDENT)

    def implied(self, row, *ratios):
        return implied_fault(self.SYSTEM, row, Implied(ratios))

    def broken(self, row, numbers):
        return implied_fault(self.SYSTEM, row, Broken(numbers))

    def test_any_right_combination(self):
        row = (1, 1, 2)
        for ratios in ((1, 0, -1, 0), (0, 0, -2, 1), (-1, 1, -1, 0), (3, 0, 1, -2)):
            self.assertIsNone(self.implied(row, *[Ratio(top) for top in ratios]))
        self.assertIsNone(self.implied(row, Ratio(1, 2), Ratio(1, 4), Ratio(-1), Ratio(0)))

    def test_ratios(self):
        right = [Ratio(1), Ratio(0), Ratio(-1), Ratio(0)]
        for place in range(4):
            for thing in (*NO_NUMBERS, 1, 0, Fraction(1), Anything()):
                self.assertEqual(self.implied((1, 1, 2), *right[:place], thing, *right[place + 1:]), "ratios")
        self.assertEqual(self.implied((1, 1, 2), *right[:3]), "ratios")
        self.assertEqual(self.implied((1, 1, 2), *right, Ratio(0)), "ratios")
        self.assertEqual(self.implied((1, 1, 2)), "ratios")
        for thing in (None, 4, "abcd"):
            self.assertEqual(implied_fault(self.SYSTEM, (1, 1, 2), Implied(thing)), "ratios")

    def test_sum(self):
        right = [Ratio(1), Ratio(0), Ratio(-1), Ratio(0)]
        for place in range(4):
            spoilt = [*right[:place], right[place] + Ratio(1, 7), *right[place + 1:]]
            self.assertEqual(self.implied((1, 1, 2), *spoilt), "sum")
        for row in ((2, 1, 2), (1, 2, 2), (1, 1, 3), (-1, -1, -2), (2, 2, 4), (0, 0, 0)):
            self.assertEqual(self.implied(row, *right), "sum")

    def test_right_numbers(self):
        self.assertIsNone(self.broken((0, 0, 1), (1, 1, -1)))
        self.assertIsNone(self.broken([MOST, 0, 0], (1, 1, -1)))
        for numbers in ((1, 0), (0, 1), (2, -3), (1, -MOST)):
            self.assertIsNone(implied_fault(System(2, []), (MOST, 3), Broken(numbers)))

    def test_values(self):
        for place in range(3):
            for thing in (*NO_NUMBERS, Ratio(1), Anything()):
                numbers = [1, 1, -1]
                numbers[place] = thing
                self.assertEqual(self.broken((0, 0, 1), tuple(numbers)), "values")
        for numbers in ((), (1, 1), (1, 1, -1, 0), None, "abc", 3):
            self.assertEqual(self.broken((0, 0, 1), numbers), "values")

    def test_lowest(self):
        for numbers in ((0, 0, 0), (2, 2, -2), (-1, -1, 1), (0, -1, 1), (0, 3, 6), (0, 0, -1), (0, 0, 2)):
            self.assertEqual(self.broken((0, 0, 1), numbers), "lowest")

    def test_rows(self):
        for numbers in ((1, 0, 0), (1, 1, 1), (0, 1, -1), (5, -1, -1), (0, 0, 1)):
            self.assertEqual(self.broken((0, 0, 1), numbers), "rows")
        self.assertEqual(self.broken((0, 0, 0), (1, 0, 0)), "rows")

    def test_row(self):
        for row in ((0, 0, 0), (1, 0, 1), (1, 2, 3), (0, -MOST, -MOST)):
            self.assertEqual(self.broken(row, (1, 1, -1)), "row")


class WrongTest(Raises, unittest.TestCase):
    def refused(self, index, what, unknowns, rows):
        self.raises(BadSystem, {"index": index, "what": what}, System, unknowns, rows)

    def test_unknowns(self):
        for thing in (*NO_NUMBERS, 0, -1, 201, 10 ** 30, Anything()):
            self.refused(0, "unknowns", thing, None)
        self.assertEqual((System(1, []).unknowns, System(200, []).unknowns), (1, 200))

    def test_rows(self):
        for thing in NO_SEQUENCES:
            self.refused(0, "rows", 1, thing)
        self.refused(0, "rows", 1, [(0,)] * 401)
        self.refused(0, "rows", 1, [None] * 401)
        self.assertEqual(len(System(1, [(0,)] * 400).rows), 400)

    def test_row(self):
        wrong = [*NO_SEQUENCES, (), (1,), (1, 2, 3), [1], (MOST + 1, 0), (0, -MOST - 1)]
        wrong += [(thing, 0) for thing in NO_NUMBERS] + [[0, thing] for thing in NO_NUMBERS]
        for thing in wrong:
            self.refused(0, "row", 2, [thing])
            self.refused(2, "row", 2, ((1, 2), [MOST, -MOST], thing, None))
            system = System(2, [(1, 2)])
            self.raises(NoRow, {"row": thing}, system.implies, thing)
            self.raises(NoRow, {"row": thing}, implied_fault, system, thing, Implied(None))
            self.raises(NoRow, {"row": thing}, implied_fault, system, thing, Broken(None))
