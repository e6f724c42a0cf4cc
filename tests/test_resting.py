import random
import unittest
from itertools import combinations, islice, permutations, product

from helpers import NO_NUMBERS, NO_SEQUENCES, Anything, Raises
from slitstairs.errors import BadOrder, BadTable, NoSuch, TooEarly
from slitstairs.pulls import Box
from slitstairs.resting import (
    Hands, closed_lots, count_orders, hands_fault, let_orders, longest_chain, numbers_above, numbers_beneath, order_at,
    order_exchanges, order_fault, order_index, rest_table, table_hands, table_rounds)

EXAMPLE = ((), (0,), (0,))
TEN = ((),) * 10


def some_tables():
    """All tables of up to four rows, and some greater ones."""
    for many in range(5):
        rows = [[row for length in range(index + 1) for row in combinations(range(index), length)] for index in range(many)]
        yield from product(*rows)
    chance = random.Random(98)
    for many in (5, 5, 5, 6, 6, 7):
        for likely in (1, 2, 4):
            yield tuple(tuple(on for on in range(index) if chance.randrange(6) < likely) for index in range(many))


def great_tables():
    chance = random.Random(99)
    yield TEN
    yield tuple((index - 1,) if index else () for index in range(10))
    for likely in (1, 2, 3):
        yield tuple(tuple(on for on in range(index) if chance.randrange(8) < likely) for index in range(10))


def beneath(table, number):
    found = set(table[number])
    for on in table[number]:
        found |= beneath(table, on)
    return found


def is_let(table, order):
    return all(set(table[number]) <= set(order[:k]) for k, number in enumerate(order))


def slow_orders(table):
    return [order for order in permutations(range(len(table))) if is_let(table, order)]


def lots(many):
    return [lot for length in range(many + 1) for lot in combinations(range(many), length)]


class RestTableTest(unittest.TestCase):
    def test_by_hand(self):
        low, on, before, beside = Box(0, 1, 0, 0, 1, 1), Box(0, 0, 0, 1, 1, 1), Box(1, 1, 1, 0, 1, 1), Box(2, 2, 0, 0, 1, 1)
        self.assertEqual(rest_table([low, on, before, beside]), ((), (0,), (0,), ()))
        # Only earlier boxes count.
        self.assertEqual(rest_table((on, low)), ((), ()))
        self.assertEqual(rest_table([on, before, low, on]), ((), (), (), (2,)))
        self.assertEqual((rest_table([]), rest_table(())), ((), ()))

    def test_against_rests_on(self):
        chance = random.Random(97)
        for _ in range(30):
            boxes = [Box(first, first + chance.randrange(2), chance.randrange(3), chance.randrange(3), 1, 1)
                     for first in (chance.randrange(2) for _ in range(12))]
            table = rest_table(boxes)
            self.assertEqual(table, tuple(tuple(k for k in range(index) if box.rests_on(boxes[k]))
                                          for index, box in enumerate(boxes)))
            self.assertEqual({row.__class__ for row in (table, *table)}, {tuple})


class NumbersTest(Raises, unittest.TestCase):
    def test_beneath_and_above(self):
        for table in (*some_tables(), *great_tables()):
            rows = [list(row) for row in table]
            for number in range(len(table)):
                under = tuple(sorted(beneath(table, number)))
                over = tuple(k for k in range(len(table)) if number in beneath(table, k))
                self.assertEqual((numbers_beneath(table, number), numbers_above(rows, number)), (under, over))
                self.assertEqual((numbers_beneath(rows, number), numbers_above(table, number)), (under, over))
            self.assertEqual(rows, [list(row) for row in table])

    def test_wrong_numbers(self):
        for thing in (*NO_NUMBERS, -1, 3, 10 ** 20):
            self.raises(NoSuch, {"number": thing}, numbers_beneath, EXAMPLE, thing)
            self.raises(NoSuch, {"number": thing}, numbers_above, list(EXAMPLE), thing)
        self.raises(NoSuch, {"number": 0}, numbers_above, (), 0)


class BadTableTest(Raises, unittest.TestCase):
    CALLS = (lambda t: numbers_beneath(t, None), lambda t: numbers_above(t, None), lambda t: order_fault(t, None),
             count_orders, lambda t: list(let_orders(t)), lambda t: order_at(t, None), lambda t: order_index(t, None),
             lambda t: order_exchanges(t, None, None), closed_lots, table_rounds, longest_chain, table_hands,
             lambda t: hands_fault(t, Hands(None, None)))

    def refused(self, index, what, table):
        for call in self.CALLS:
            self.raises(BadTable, {"index": index, "what": what}, call, table)

    def test_wrong_tables(self):
        for thing in NO_SEQUENCES:
            self.refused(0, "table", thing)
        self.refused(10, "many", [()] * 11)
        self.refused(10, "many", (None,) * 30)
        for thing in (*NO_SEQUENCES, (2,), (3,), (-1,), (0, 0), (1, 0), [True], (False,), ("0",), (0, None), ((0,),),
                      Anything(), [Anything()]):
            self.refused(2, "row", [(), (), thing, None])
        self.refused(0, "row", [(0,)])
        self.refused(1, "row", ([], (1,)))

    def test_right_tables(self):
        for call in (count_orders, closed_lots, table_rounds, longest_chain):
            self.assertEqual(call([[], [0], [0]]), call(EXAMPLE))
            self.assertIsNotNone(call(TEN))


class OrdersTest(Raises, unittest.TestCase):
    def test_the_example(self):
        self.assertEqual((list(let_orders(EXAMPLE)), table_rounds(EXAMPLE)), ([(0, 1, 2), (0, 2, 1)], ((0,), (1, 2))))

    def test_against_all_orders(self):
        for table in some_tables():
            orders = slow_orders(table)
            self.assertEqual(list(let_orders(table)), orders)
            self.assertEqual(count_orders(table), len(orders))
            for index, order in enumerate(orders):
                self.assertEqual(order_at(table, index), order)
                self.assertEqual(order_index(table, order), index)
                self.assertEqual(order_index([list(row) for row in table], list(order)), index)
            for index in (-1, len(orders)):
                self.raises(NoSuch, {"number": index}, order_at, table, index)

    def test_order_fault(self):
        for table in some_tables():
            if len(table) > 5:
                continue
            for order in permutations(range(len(table))):
                early = [(k, min(set(table[number]) - set(order[:k]))) for k, number in enumerate(order)
                         if set(table[number]) - set(order[:k])]
                self.assertEqual(order_fault(table, order), early[0] if early else None)
                self.assertEqual(order_fault(table, list(order)), early[0] if early else None)
                if early:
                    told = {"index": early[0][0], "on": early[0][1]}
                    self.raises(TooEarly, told, order_index, table, order)
                    self.raises(TooEarly, told, order_exchanges, table, order, None)
                    self.raises(TooEarly, told, order_exchanges, table, range_order(table), order)

    def test_great_tables(self):
        self.assertEqual((count_orders(TEN), order_at(TEN, 0), order_at(TEN, 3628799)),
                         (3628800, tuple(range(10)), tuple(range(10))[::-1]))
        self.assertEqual(list(islice(let_orders(TEN), 3))[2], (0, 1, 2, 3, 4, 5, 6, 8, 7, 9))
        for table in great_tables():
            many = count_orders(table)
            for index in (0, 1, many // 3, many - 1):
                if 0 <= index < many:
                    order = order_at(table, index)
                    self.assertTrue(is_let(table, order))
                    self.assertEqual(order_index(table, order), index)
            found = list(islice(let_orders(table), 50))
            self.assertEqual(found, sorted(found))
            self.assertEqual(found, [order_at(table, index) for index in range(len(found))])

    def test_a_table_without_rows(self):
        for table in ((), []):
            self.assertEqual((list(let_orders(table)), count_orders(table), order_at(table, 0), order_index(table, [])),
                             ([()], 1, (), 0))
            self.assertEqual((order_fault(table, ()), order_exchanges(table, (), [])), (None, ()))
            self.assertEqual((closed_lots(table), table_rounds(table), longest_chain(table)), (((),), (), ()))
            self.assertEqual(vars(table_hands(table)), {"chains": (), "together": ()})
            self.assertIsNone(hands_fault(table, Hands((), ())))

    def test_wrong_orders(self):
        calls = (lambda order: order_fault(EXAMPLE, order), lambda order: order_index(EXAMPLE, order),
                 lambda order: order_exchanges(EXAMPLE, order, None),
                 lambda order: order_exchanges(EXAMPLE, (0, 1, 2), order))
        for call in calls:
            for thing in (*NO_SEQUENCES, (), (0, 1), [0, 1, 2, 0], "012"):
                self.raises(BadOrder, {"index": 0, "what": "length"}, call, thing)
            for thing in (*NO_NUMBERS, -1, 3, Anything()):
                self.raises(BadOrder, {"index": 0, "what": "number"}, call, (thing, 0, 0))
                self.raises(BadOrder, {"index": 2, "what": "number"}, call, [1, 0, thing])
            self.raises(BadOrder, {"index": 1, "what": "double"}, call, (1, 1, None))
            self.raises(BadOrder, {"index": 2, "what": "double"}, call, [1, 0, 1])
        for index in (*NO_NUMBERS, -1, 2, 10 ** 20):
            self.raises(NoSuch, {"number": index}, order_at, EXAMPLE, index)

    def test_exchanges(self):
        for table in some_tables():
            orders = slow_orders(table)[:30]
            for one, other in product(orders, repeat=2):
                order = list(one)
                turned = [(a, b) for a, b in combinations(one, 2) if other.index(a) > other.index(b)]
                found = order_exchanges(table, one, list(other))
                self.assertIs(found.__class__, tuple)
                self.assertEqual(len(found), len(turned))
                for k in found:
                    self.assertEqual(k, min(k for k in range(len(order) - 1)
                                            if other.index(order[k]) > other.index(order[k + 1])))
                    order[k:k + 2] = order[k + 1], order[k]
                    self.assertTrue(is_let(table, order))
                self.assertEqual(tuple(order), other)

    def test_most_exchanges(self):
        self.assertEqual(len(order_exchanges(TEN, tuple(range(10)), list(range(10))[::-1])), 45)


def range_order(table):
    return tuple(range(len(table)))


class LotsTest(unittest.TestCase):
    def test_closed_lots(self):
        for table in (*some_tables(), *great_tables()):
            told = [lot for lot in lots(len(table)) if all(set(table[number]) <= set(lot) for number in lot)]
            self.assertEqual(closed_lots(table), tuple(told))

    def test_rounds_and_chains(self):
        for table in (*some_tables(), *great_tables()):
            levels = []
            for row in table:
                levels.append(1 + max((levels[on] for on in row), default=-1))
            rounds = table_rounds([list(row) for row in table])
            self.assertEqual(rounds, tuple(tuple(k for k, level in enumerate(levels) if level == told)
                                           for told in sorted(set(levels))))
            chains = [()]
            longer = chains
            while longer:
                chains = longer
                longer = [(*chain, k) for chain in chains for k in range(len(table))
                          if not chain or chain[-1] in table[k]]
            self.assertEqual(longest_chain(table), min(chains))
            self.assertEqual(len(longest_chain(table)), len(rounds))

    def test_hands(self):
        for table in (*some_tables(), *great_tables()):
            hands = table_hands(table)
            self.assertIs(hands.__class__, Hands)
            self.assertEqual(list(vars(hands)), ["chains", "together"])
            self.assertEqual(sorted(number for chain in hands.chains for number in chain), list(range(len(table))))
            for chain in hands.chains:
                self.assertTrue(chain)
                for one, other in zip(chain, chain[1:]):
                    self.assertIn(one, beneath(table, other))
            self.assertEqual(hands.together, tuple(sorted(set(hands.together))))
            for one, other in combinations(hands.together, 2):
                self.assertNotIn(one, beneath(table, other))
            self.assertEqual(len(hands.together), len(hands.chains))
            self.assertEqual({part.__class__ for part in (hands.chains, *hands.chains, hands.together)}, {tuple})
            self.assertIsNone(hands_fault(table, hands))
            self.assertIsNone(hands_fault([list(row) for row in table], hands))


class HandsFaultTest(unittest.TestCase):
    TABLE = ((), (0,), (0,), (1, 2))

    def fault(self, chains, together):
        return hands_fault(self.TABLE, Hands(chains, together))

    def test_right_ones(self):
        for chains in (((0, 1, 3), (2,)), ((2, 3), (0, 1)), ((1,), (0, 2, 3)), ((1, 3), (0, 2))):
            self.assertIsNone(self.fault(chains, (1, 2)))
        self.assertIsNone(hands_fault(((), (0,), (1,), (0,)), Hands(((0, 1, 2), (3,)), (1, 3))))
        self.assertIsNone(hands_fault(((), (0,), (1,), (0,)), Hands(((0, 3), (1, 2)), (2, 3))))

    def test_standing_is_enough(self):
        # Each number but the first stands on the one ahead, it need not rest on it.
        table = ((), (0,), (1,), ())
        self.assertEqual(hands_fault(table, Hands(((0, 2), (1,), (3,)), (2, 3))), "many")
        self.assertIsNone(hands_fault(((), (0,), (1,), (1,), (3,)), Hands(((0, 2), (1, 3, 4)), (2, 4))))

    def test_chains(self):
        bad = (((0, 1, 3),), ((0, 1, 3), (2, 2)), ((0, 1, 3), (2,), ()), ((0, 1, 3), (2,), (0,)), ((0, 1, 3), (4,)),
               ((1, 0, 3), (2,)), ((0, 3, 1), (2,)), [(0, 1, 3), (2,)], ((0, 1, 3), [2]), ((0, 1, 2, 3),), ((0, 1, 3), (True,)), ((0, 1, 3), ("2",)), ((0, 1, 3), (None,)), (), None, 3,
               "01", (3, 2), ((0, 1, 3), 2), ((0, 1, 3), None), ((0, 1, 3), (2, -1)), ((0, 1, 3), ((2,),)), ((0, 0, 1, 3), (2,)))
        for chains in bad:
            self.assertEqual(self.fault(chains, None), "chains")

    def test_together(self):
        chains = ((0, 1, 3), (2,))
        for together in ([1, 2], (2, 1), (1, 1), (0, 1), (0, 3), (1, 3), (1, 2, 3), (4,), (-1, 1), (True, 2), ("1", 2), None, 3, "12",
                         (1, None), ((1,), (2,))):
            self.assertEqual(self.fault(chains, together), "together")

    def test_many(self):
        for together in ((), (0,), (1,), (3,)):
            self.assertEqual(self.fault(((0, 1, 3), (2,)), together), "many")
        self.assertEqual(self.fault(((0, 1), (2,), (3,)), (1, 2)), "many")

    def test_arguments_are_kept_as_they_are(self):
        self.assertEqual(vars(Hands([1], "x")), {"chains": [1], "together": "x"})
