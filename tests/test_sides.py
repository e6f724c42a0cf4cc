import random
import unittest
from collections import Counter
from itertools import combinations_with_replacement, product

from helpers import NO_NUMBERS, NO_SEQUENCES, Anything, Raises, all_words, crossed
from slitstairs.allcards import all_cards, card_at, how_many_cards
from slitstairs.cards import Card
from slitstairs.errors import BadSide, BadSize
from slitstairs.sides import card_of_side, side_fault, side_view


def slow_side(words):
    counts = Counter((*crossed(word)[t], word[t]) for word in words for t in range(len(word)))
    return tuple((*cell, counts[cell]) for cell in sorted(counts))


def some_cards():
    chance = random.Random(251)
    for size, width in ((1, 1), (1, 3), (2, 1), (2, 3), (3, 1), (3, 3), (4, 2)):
        yield from all_cards(size, width)
    for size, width in ((4, 5), (5, 4), (6, 3), (6, 12)):
        for _ in range(6):
            yield card_at(size, width, chance.randrange(how_many_cards(size, width)))


class SideViewTest(unittest.TestCase):
    def test_by_hand(self):
        card = Card.of_words("ddoo", "dodo", "ddoo", marks=[(0, 1)])
        self.assertEqual(side_view(card), ((0, 0, "o", 2), (0, 1, "d", 2), (0, 1, "o", 1), (0, 2, "d", 3), (1, 0, "o", 3),
                                           (1, 1, "d", 1)))
        self.assertEqual(side_view(Card.of_words("do")), ((0, 0, "o", 1), (0, 1, "d", 1)))

    def test_against_cells(self):
        for card in some_cards():
            found = side_view(card)
            self.assertEqual(found, slow_side(card.words))
            self.assertEqual({part.__class__ for part in (found, *found)}, {tuple})
            self.assertIsNone(side_fault(card.size, found))
            self.assertIsNone(side_fault(card.size, [list(row) for row in found]))

    def test_mirrored_and_turned(self):
        for card in some_cards():
            self.assertEqual(side_view(card.turned()), side_view(card))
            # The cells of a mirrored card begin where those of the card end, with x and y exchanged.
            led = sorted(((y - 1, x, "o", many) if letter == "d" else (y, x + 1, "d", many))
                         for x, y, letter, many in side_view(card))
            self.assertEqual(side_view(card.mirrored()), tuple(led))


class CardOfSideTest(Raises, unittest.TestCase):
    def test_against_all_cards_in_order(self):
        for size, width in ((1, 1), (1, 4), (2, 1), (2, 2), (2, 5), (3, 1), (3, 2), (3, 3), (4, 2)):
            first = {}
            for card in all_cards(size, width):
                first.setdefault(side_view(card), card)
            for side, card in first.items():
                found = card_of_side(size, side)
                self.assertEqual(found, card)
                self.assertEqual(list(found.words), sorted(found.words))

    def test_greater_cards(self):
        for card in some_cards():
            found = card_of_side(card.size, [list(row) for row in side_view(card)])
            self.assertEqual((side_view(found), found.width, found.marks), (side_view(card), card.width, ()))
            self.assertEqual(list(found.words), sorted(found.words))

    def test_words_that_cross(self):
        # Where two words meet, each may go on as the other one did.
        self.assertEqual(card_of_side(3, side_view(Card.of_words("doddoo", "ddoodo"))).words, ("ddodoo", "dododo"))
        self.assertEqual(card_of_side(3, side_view(Card.of_words("dododo", "dddooo"))).words, ("dddooo", "dododo"))
        pairs = list(combinations_with_replacement(all_words(4), 2))
        for pair in pairs[::7]:
            told = min(other for other in pairs if slow_side(other) == slow_side(pair))
            self.assertEqual(card_of_side(4, slow_side(pair[::-1])).words, told)

    def test_wrong_sides(self):
        self.raises(BadSide, {"index": 0, "what": "rows"}, card_of_side, 2, ())
        self.raises(BadSide, {"index": 0, "what": "flow"}, card_of_side, 2, [(0, 1, "d", 2), (0, 2, "d", 2), (1, 0, "o", 2)])

    def test_lists_are_not_changed(self):
        rows = [list(row) for row in side_view(Card.of_words("ddoo", "dodo"))]
        told = [list(row) for row in rows]
        card_of_side(2, rows)
        side_fault(2, rows)
        self.assertEqual(rows, told)


class SideFaultTest(Raises, unittest.TestCase):
    SIDE = side_view(Card.of_words("dddooo", "ddoodo", "dododo"))

    def refused(self, size, rows, index, what):
        found = side_fault(size, rows)
        self.assertEqual((found, found.__class__), ((index, what), tuple))
        self.raises(BadSide, {"index": index, "what": what}, card_of_side, size, rows)

    def test_all_small_tables(self):
        # Of size 1 and 2 all tables of one or two columns and those near them.
        for size, most, widths in ((1, 3, (1, 2, 3)), (2, 2, (1, 2))):
            cells = sorted({(*crossed(word)[t], word[t]) for word in all_words(size) for t in range(2 * size)})
            sides = {side_view(card) for width in widths for card in all_cards(size, width)}
            let = set()
            for numbers in product(range(most + 1), repeat=len(cells)):
                rows = tuple((*cell, many) for cell, many in zip(cells, numbers) if many)
                if rows and side_fault(size, rows) is None:
                    let.add(rows)
            self.assertEqual(let, sides)

    def test_spoilt_numbers(self):
        for card in list(some_cards())[::11]:
            side = side_view(card)
            for k, (x, y, letter, many) in enumerate(side):
                rows = (*side[:k], (x, y, letter, many + 1), *side[k + 1:])
                if many == 12:
                    self.assertEqual(side_fault(card.size, rows), (k, "many"))
                    continue
                ends = {(x, y), (x, y - 1) if letter == "d" else (x + 1, y)} - {(0, card.size), (card.size, 0)}
                touched = [index for index, (u, v, told, _) in enumerate(rows)
                           if {(u, v), (u, v - 1) if told == "d" else (u + 1, v)} & ends]
                # Of size 1 the table of one place between the boards alone can be spoilt.
                self.assertEqual(side_fault(card.size, rows), (touched[0], "flow"))

    def test_a_row_left_out(self):
        for card in list(some_cards())[::5]:
            side = side_view(card)
            for k in range(len(side)):
                rows = side[:k] + side[k + 1:]
                self.assertEqual(side_fault(card.size, rows)[1], "flow")

    def test_rows(self):
        for thing in (*NO_SEQUENCES, (), []):
            self.refused(3, thing, 0, "rows")

    def test_row(self):
        for thing in (*NO_NUMBERS, "00o1", (0, 0, "o"), (0, 0, "o", 1, 1), {0: 1}, range(4), (0, "o", 0, 1)):
            self.refused(3, [thing], 0, "row")
            self.refused(3, [*self.SIDE[:2], thing, None], 2, "row")
        for thing in (*NO_NUMBERS, Anything()):
            self.refused(3, [(thing, 0, "o", 3)], 0, "row")
            self.refused(3, [[0, thing, "o", 3]], 0, "row")
            self.refused(3, [(0, 0, "o", thing)], 0, "row")
            self.refused(3, [(0, 0, thing, 3)], 0, "row")
        for letter in ("", "do", "D", "x", ["o"], ("d",), b"d", Anything()):
            self.refused(3, [self.SIDE[0], (0, 1, letter, 3)], 1, "row")

    def test_place(self):
        for x, y, letter in ((-1, 2, "d"), (1, -1, "o"), (2, 2, "d"), (3, 1, "d"), (0, 4, "d"), (1, 0, "d"), (0, 0, "d"), (3, 0, "d"),
                             (1, 2, "o"), (3, 0, "o"), (0, 3, "o"), (10 ** 20, 0, "o"), (-1, -1, "o")):
            self.refused(3, [(x, y, letter, 0)], 0, "place")
            self.refused(3, [*self.SIDE, (x, y, letter, 0)], len(self.SIDE), "place")

    def test_places_of_all_sizes(self):
        for size in range(1, 7):
            cells = {(*crossed(word)[t], word[t]) for word in all_words(size) for t in range(2 * size)}
            for x, y, letter in product(range(-1, size + 2), range(-1, size + 2), "do"):
                fault = side_fault(size, [(x, y, letter, 13)])
                self.assertEqual(fault, (0, "many" if (x, y, letter) in cells else "place"))

    def test_many(self):
        for many in (0, -1, 13, 10 ** 20):
            self.refused(3, [(0, 0, "o", many)], 0, "many")
            self.refused(3, [*self.SIDE[:3], (0, 0, "o", many)], 3, "many")
        self.assertEqual(side_fault(1, [(0, 0, "o", 12), (0, 1, "d", 12)]), None)
        self.assertEqual(card_of_side(1, [(0, 0, "o", 12), (0, 1, "d", 12)]).width, 12)

    def test_order(self):
        side = self.SIDE
        self.assertEqual([row[:3] for row in side], sorted({row[:3] for row in side}))
        for k in range(len(side) - 1):
            self.refused(3, (*side[:k], side[k + 1], side[k], *side[k + 2:]), k + 1, "order")
            self.refused(3, (*side[:k + 1], side[k], *side[k + 1:]), k + 1, "order")
        # The number of columns is not asked for the order.
        self.refused(3, [(0, 0, "o", 1), (0, 0, "o", 2)], 1, "order")

    def test_flow(self):
        self.refused(2, [(0, 1, "d", 1), (0, 2, "d", 1), (1, 0, "o", 1)], 0, "flow")
        self.refused(2, [(1, 0, "o", 1)], 0, "flow")
        self.refused(1, [(0, 0, "o", 2), (0, 1, "d", 1)], 0, "flow")
        # A way that goes nowhere, beside a right one.
        self.refused(2, [(0, 0, "o", 1), (0, 1, "d", 1), (0, 1, "o", 1), (0, 2, "d", 2), (1, 0, "o", 1)], 2, "flow")
        # A row that is right itself ahead of those that are not.
        self.refused(3, [(0, 0, "o", 1), (0, 1, "d", 1), (0, 2, "d", 1), (0, 3, "d", 2), (1, 0, "o", 1), (2, 0, "o", 1)], 2, "flow")

    def test_row_by_row(self):
        self.refused(3, [(0, 0, "d", 0), None], 0, "place")
        self.refused(3, [(0, 0, "o", 0), (0, 0, "o", None)], 0, "many")
        self.refused(3, [(0, 0, "o", 1), (0, 0, "o", 1), None], 1, "order")

    def test_sizes(self):
        for size in (*NO_NUMBERS, 0, -1, 7, 10 ** 20):
            self.raises(BadSize, {"size": size}, side_fault, size, None)
            self.raises(BadSize, {"size": size}, card_of_side, size, None)
