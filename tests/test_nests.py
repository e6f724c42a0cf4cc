import unittest
from itertools import product

from helpers import NO_NUMBERS, Anything, Raises, all_words, heights_of
from slitstairs.allcards import all_cards, plain_card
from slitstairs.cards import Card
from slitstairs.columns import Column
from slitstairs.errors import BadNest
from slitstairs.nests import (
    Crossing, Nested, before_all, behind_all, behind_fault, is_behind, nest_of, shared_cells)

PLAIN = Card.of_words("dddooo")
MIDDLE = Card.of_words("ddodoo")
LEFT = Card.of_words("doddoo")
RIGHT = Card.of_words("ddoodo")
STEEP = Card.of_words("dododo")


def table_of(card):
    return [heights_of(word) for word in card.words]


def slow_fault(one, other):
    for c, (row, least) in enumerate(zip(table_of(one), table_of(other))):
        for t, height in enumerate(row):
            if height < least[t]:
                return (c, t)
    return None


class BehindTest(unittest.TestCase):
    def test_columns(self):
        self.assertIsNone(behind_fault(PLAIN, STEEP))
        self.assertIsNone(behind_fault(PLAIN, PLAIN))
        self.assertEqual(behind_fault(STEEP, PLAIN), (0, 2))
        self.assertEqual(behind_fault(LEFT, RIGHT), (0, 2))
        self.assertEqual(behind_fault(RIGHT, LEFT), (0, 4))
        self.assertEqual(behind_fault(MIDDLE, PLAIN), (0, 3))

    def test_the_first_column_and_then_the_first_boundary(self):
        one = Card.of_words("dddooo", "ddodoo", "dododo")
        other = Card.of_words("ddodoo", "dddooo", "dddooo")
        self.assertEqual((behind_fault(one, other), behind_fault(other, one)), ((1, 3), (0, 3)))

    def test_is_behind(self):
        self.assertIs(is_behind(PLAIN, STEEP), True)
        self.assertIs(is_behind(STEEP, PLAIN), False)
        self.assertIs(is_behind(LEFT, RIGHT), False)
        self.assertIs(is_behind(LEFT, LEFT), True)

    def test_all_small_cards(self):
        for size, width in ((1, 2), (2, 2), (3, 2), (4, 1)):
            for one, other in product(list(all_cards(size, width)), repeat=2):
                self.assertEqual(behind_fault(one, other), slow_fault(one, other))
                self.assertIs(is_behind(one, other), slow_fault(one, other) is None)

    def test_greatest_cards(self):
        one = Card.of_words(*["dodododododo"] * 11, "ddddddoooooo")
        other = Card.of_words(*["dodododododo"] * 12)
        self.assertEqual((behind_fault(one, other), behind_fault(other, one)), (None, (11, 2)))


class SharedCellsTest(unittest.TestCase):
    def test_shared_cells(self):
        self.assertEqual(shared_cells(PLAIN, STEEP), ((0, 0), (0, 5)))
        self.assertEqual(shared_cells(PLAIN, MIDDLE), ((0, 0), (0, 1), (0, 4), (0, 5)))
        self.assertEqual(shared_cells(Card.of_words("ddoo", "dodo"), Card.of_words("ddoo", "ddoo")),
                         ((0, 0), (0, 1), (0, 2), (0, 3), (1, 0), (1, 3)))

    def test_all_small_cards(self):
        for one, other in product(list(all_cards(3, 2)), repeat=2):
            first, second = table_of(one), table_of(other)
            cells = [(c, t) for c in range(2) for t in range(6)
                     if one.words[c][t] == other.words[c][t] and first[c][t] == second[c][t]]
            self.assertEqual(shared_cells(one, other), tuple(cells))

    def test_the_least_card_and_itself(self):
        card = Card.of_words("do")
        self.assertEqual(shared_cells(card, card), ((0, 0), (0, 1)))
        card = Card.of_words(*["ddodoododdoo"] * 12)
        self.assertEqual(shared_cells(card, card), tuple(product(range(12), range(12))))


class AllBehindTest(unittest.TestCase):
    def test_columns(self):
        self.assertEqual(behind_all(LEFT, RIGHT), Card.of_words("ddodoo"))
        self.assertEqual(before_all(LEFT, RIGHT), STEEP)
        self.assertEqual((behind_all(STEEP, MIDDLE, PLAIN), before_all(PLAIN, MIDDLE, STEEP)), (PLAIN, STEEP))

    def test_one_card(self):
        for card in (Card.of_words("do"), LEFT, plain_card(6, 12)):
            self.assertEqual((behind_all(card), before_all(card)), (card, card))

    def test_all_small_cards(self):
        for one, other in product(list(all_cards(3, 2)), repeat=2):
            rows = list(zip(table_of(one), table_of(other)))
            most = [[max(pair) for pair in zip(*row)] for row in rows]
            least = [[min(pair) for pair in zip(*row)] for row in rows]
            self.assertEqual(table_of(behind_all(one, other)), most)
            self.assertEqual(table_of(before_all(one, other)), least)

    def test_many_cards(self):
        cards = [Card.of_words(word, *[other] * 11) for word, other in zip(all_words(6), all_words(6)[32:])]
        behind, before = behind_all(*cards), before_all(*cards)
        for card in cards:
            self.assertTrue(is_behind(behind, card) and is_behind(card, before))
        self.assertEqual(behind.words[0], "ddddddoooooo")
        self.assertEqual(before.words[11], "dodododododo")
        heights = [max(heights_of(card.words[1])[t] for card in cards) for t in range(13)]
        self.assertEqual(heights_of(behind.words[1]), heights)


class NestOfTest(unittest.TestCase):
    def nested(self, *cards):
        found = nest_of(*cards)
        self.assertIs(found.__class__, Nested)
        self.assertEqual((list(vars(found)), found.order.__class__), (["order"], tuple))
        return found.order

    def crossing(self, *cards):
        found = nest_of(*cards)
        self.assertIs(found.__class__, Crossing)
        self.assertEqual(list(vars(found)), ["one", "other", "behind", "before"])
        return (found.one, found.other, found.behind, found.before)

    def test_nested(self):
        self.assertEqual(self.nested(STEEP, PLAIN, MIDDLE), (1, 2, 0))
        self.assertEqual(self.nested(STEEP, LEFT, MIDDLE, PLAIN), (3, 2, 1, 0))
        self.assertEqual(self.nested(PLAIN), (0,))

    def test_equal_cards_in_the_order_in_which_they_are_passed(self):
        self.assertEqual(self.nested(STEEP, PLAIN, STEEP, PLAIN, MIDDLE, STEEP), (1, 3, 4, 0, 2, 5))
        self.assertEqual(self.nested(*[LEFT] * 12), tuple(range(12)))

    def test_crossing(self):
        self.assertEqual(self.crossing(LEFT, RIGHT), (0, 1, (0, 4), (0, 2)))
        self.assertEqual(self.crossing(RIGHT, LEFT), (0, 1, (0, 2), (0, 4)))
        self.assertEqual(self.crossing(PLAIN, RIGHT, STEEP, MIDDLE, LEFT, RIGHT), (1, 4, (0, 2), (0, 4)))

    def test_the_first_pair_by_one_and_then_by_other(self):
        # Cards 1 and 2 cross as well as cards 0 and 3: the lesser first index wins.
        plain, left, right = "dddooo", "doddoo", "ddoodo"
        steep = "dododo"
        cards = [Card.of_words(steep, plain, plain), Card.of_words(steep, left, plain),
                 Card.of_words(steep, right, plain), Card.of_words(plain, steep, steep)]
        self.assertEqual(self.crossing(*cards), (0, 3, (1, 2), (0, 2)))
        self.assertEqual(self.crossing(*cards[1:]), (0, 1, (1, 4), (1, 2)))

    def test_places_in_several_columns(self):
        one = Card.of_words("ddoo", "ddoo", "dodo", "dodo")
        other = Card.of_words("ddoo", "dodo", "dodo", "ddoo")
        self.assertEqual(self.crossing(one, other), (0, 1, (1, 2), (3, 2)))

    def test_all_small_nests(self):
        cards = list(all_cards(3, 1)) + list(all_cards(3, 1))[2:4]
        for lot in product(cards, repeat=3):
            pairs = [(k, n) for k in range(3) for n in range(k + 1, 3)
                     if slow_fault(lot[k], lot[n]) and slow_fault(lot[n], lot[k])]
            if pairs:
                k, n = pairs[0]
                self.assertEqual(self.crossing(*lot), (k, n, slow_fault(lot[n], lot[k]), slow_fault(lot[k], lot[n])))
            else:
                order = self.nested(*lot)
                self.assertEqual(sorted(order), [0, 1, 2])
                for k, n in zip(order, order[1:]):
                    self.assertIsNone(slow_fault(lot[k], lot[n]))
                    self.assertTrue(lot[k] != lot[n] or k < n)

    def test_a_hundred_cards(self):
        cards = [Card.of_words(*["ddddddoooooo"] * (k % 13), *["dodododododo"] * (12 - k % 13)) for k in range(100)]
        order = self.nested(*cards)
        self.assertEqual(order, tuple(sorted(range(100), key=lambda k: (-(k % 13), k))))

    def test_results_keep_what_they_are_passed(self):
        self.assertEqual(vars(Nested("x")), {"order": "x"})
        self.assertEqual(vars(Crossing(1, 2, None, ())), {"one": 1, "other": 2, "behind": None, "before": ()})


class BadNestTest(Raises, unittest.TestCase):
    def refused(self, index, what, *cards):
        calls = [behind_all, before_all, nest_of]
        if len(cards) == 2:
            calls += [behind_fault, is_behind, shared_cells]
        for call in calls:
            with self.subTest((call.__name__, index, what)):
                self.raises(BadNest, {"index": index, "what": what}, call, *cards)

    def test_empty(self):
        self.refused(0, "empty")

    def test_no_cards(self):
        for thing in (*NO_NUMBERS, "dddooo", Column("dddooo"), [PLAIN], (PLAIN,), Anything()):
            self.refused(0, "card", thing, PLAIN)
            self.refused(1, "card", PLAIN, thing)
            self.refused(2, "card", PLAIN, STEEP, thing, None)
        self.refused(0, "card", [PLAIN, STEEP])

    def test_marks(self):
        marked = Card.of_words("ddoo", "ddoo", marks=[(0, 1)])
        self.refused(0, "marks", marked, marked.unmarked())
        self.refused(1, "marks", marked.unmarked(), marked)
        self.refused(2, "marks", marked.unmarked(), marked.unmarked(), marked, None)

    def test_sizes_and_widths(self):
        self.refused(1, "size", PLAIN, Card.of_words("ddoo"))
        self.refused(1, "size", PLAIN, Card.of_words("ddoo", "ddoo"))
        self.refused(1, "width", PLAIN, Card.of_words("dddooo", "dddooo"))
        self.refused(2, "width", plain_card(3, 2), plain_card(3, 2), PLAIN, None)

    def test_all_words_for_one_card_before_the_next(self):
        marked = Card.of_words("ddoo", "ddoo", marks=[(0, 1)])
        self.refused(0, "marks", marked, None)
        self.refused(1, "size", PLAIN, Card.of_words("do"), marked)
        self.refused(1, "marks", PLAIN, marked, None)
        self.refused(1, "width", PLAIN, plain_card(3, 2), None)
