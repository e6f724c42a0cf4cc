import time
import unittest
from itertools import islice, permutations, product

from helpers import NO_NUMBERS, Anything, Raises, crossed, heights_of
from slitstairs.allcards import all_cards, plain_card
from slitstairs.between import (
    between_at, between_index, cards_between, how_many_between, how_many_rows, longest_fault, longest_row,
    squares_between)
from slitstairs.cards import Card
from slitstairs.errors import BadNest, NoSuch, NotBehind, NotBetween

PLAIN = Card.of_words("dddooo")
MIDDLE = Card.of_words("ddodoo")
LEFT = Card.of_words("doddoo")
RIGHT = Card.of_words("ddoodo")
STEEP = Card.of_words("dododo")
SMALL = ((1, 2), (2, 1), (2, 2), (2, 3), (3, 1), (3, 2), (4, 1))
FAR = plain_card(6, 12)
NEAR = Card.of_words(*["dodododododo"] * 12)


def table_of(card):
    return [heights_of(word) for word in card.words]


def is_over(one, other):
    return all(height >= least for row, below in zip(table_of(one), table_of(other))
               for height, least in zip(row, below))


def small_pairs():
    for size, width in SMALL:
        for one, other in product(list(all_cards(size, width)), repeat=2):
            if is_over(one, other):
                yield one, other


def column_squares(word, size):
    """The squares before a column: those whose lower left corner is no nearer to the gutter than its path."""
    found = set()
    places = set(crossed(word))
    for x, y in product(range(size), repeat=2):
        # The path passes the square's diagonal once; the square is before it if not beyond its corner.
        for u, v in places:
            if u - v == x - y and x >= u:
                found.add((x, y))
    return found


def slow_squares(one, other):
    """The squares that are before `one` and not before `other`."""
    return tuple((c, x, y) for c in range(one.width) for x, y in
                 sorted(column_squares(one.words[c], one.size) - column_squares(other.words[c], one.size)))


def filled(one, card):
    return set(slow_squares(one, card))


class SquaresTest(unittest.TestCase):
    def test_columns(self):
        self.assertEqual(squares_between(PLAIN, MIDDLE), ((0, 0, 0),))
        self.assertEqual(squares_between(PLAIN, STEEP), ((0, 0, 0), (0, 0, 1), (0, 1, 0)))
        self.assertEqual(squares_between(PLAIN, LEFT), ((0, 0, 0), (0, 0, 1)))
        self.assertEqual(squares_between(PLAIN, RIGHT), ((0, 0, 0), (0, 1, 0)))
        self.assertEqual(squares_between(RIGHT, STEEP), ((0, 0, 1),))
        self.assertEqual(squares_between(STEEP, STEEP), ())

    def test_several_columns(self):
        one = Card.of_words("dddooo", "doddoo", "dddooo")
        other = Card.of_words("ddoodo", "doddoo", "doddoo")
        self.assertEqual(squares_between(one, other), ((0, 0, 0), (0, 1, 0), (2, 0, 0), (2, 0, 1)))

    def test_half_the_difference_of_the_heights(self):
        for one, other in small_pairs():
            squares = squares_between(one, other)
            self.assertEqual(squares, tuple(sorted(squares)))
            self.assertEqual(squares, slow_squares(one, other))
            for c, (row, below) in enumerate(zip(table_of(one), table_of(other))):
                for t, height in enumerate(row):
                    many = sum(1 for b, x, y in squares if b == c and x - y == t - one.size)
                    self.assertEqual(2 * many, height - below[t])

    def test_greatest_cards(self):
        squares = squares_between(FAR, NEAR)
        self.assertEqual(squares, tuple((c, x, y) for c in range(12) for x in range(5) for y in range(5 - x)))


class BetweenTest(unittest.TestCase):
    def test_small_pairs(self):
        cards = {(size, width): list(all_cards(size, width)) for size, width in SMALL}
        for one, other in small_pairs():
            expected = [card for card in cards[one.size, one.width] if is_over(one, card) and is_over(card, other)]
            self.assertEqual(list(cards_between(one, other)), expected)
            self.assertEqual(how_many_between(one, other), len(expected))
            for number, card in enumerate(expected):
                self.assertEqual(between_index(one, other, card), number)
                self.assertEqual(between_at(one, other, number), card)

    def test_squares_left_and_below_are_filled(self):
        for one, other in small_pairs():
            squares = set(slow_squares(one, other))
            lots = set()
            for card in cards_between(one, other):
                lot = filled(one, card)
                lots.add(frozenset(lot))
                for c, x, y in lot:
                    self.assertLessEqual({(c, x - 1, y), (c, x, y - 1)} & squares, lot)
            self.assertEqual(len(lots), how_many_between(one, other))

    def test_in_the_order_of_words(self):
        one = Card.of_words("dddooo", "ddodoo")
        other = Card.of_words("ddodoo", "dododo")
        self.assertEqual([card.words for card in cards_between(one, other)],
                         [(left, right) for left in ("dddooo", "ddodoo")
                          for right in ("ddodoo", "ddoodo", "doddoo", "dododo")])

    def test_large_pairs_by_number(self):
        total = 132 ** 12
        self.assertEqual(how_many_between(FAR, NEAR), total)
        for number in (0, 1, 131, 132, 10 ** 20, total // 3, total - 2, total - 1):
            card = between_at(FAR, NEAR, number)
            self.assertEqual(between_index(FAR, NEAR, card), number)
        self.assertEqual((between_at(FAR, NEAR, 0), between_at(FAR, NEAR, total - 1)), (FAR, NEAR))

    def test_the_first_ones_come_at_once(self):
        began = time.perf_counter()
        first = list(islice(cards_between(FAR, NEAR), 3))
        self.assertLess(time.perf_counter() - began, 5)
        self.assertEqual([card.words[11] for card in first], ["ddddddoooooo", "dddddodooooo", "dddddoodoooo"])
        self.assertEqual([card.words[:11] for card in first], [FAR.words[:11]] * 3)

    def test_cards_are_new(self):
        for card in (next(cards_between(STEEP, STEEP)), between_at(STEEP, STEEP, 0), longest_row(STEEP, STEEP)[0]):
            self.assertEqual(card, STEEP)
            self.assertIsNot(card, STEEP)


class LongestRowTest(unittest.TestCase):
    def test_columns(self):
        self.assertEqual([card.words for card in longest_row(PLAIN, STEEP)],
                         [("dddooo",), ("ddodoo",), ("doddoo",), ("dododo",)])
        self.assertEqual(longest_row(STEEP, STEEP), (STEEP,))

    def test_the_first_square_that_may_be_filled(self):
        for one, other in small_pairs():
            row = longest_row(one, other)
            self.assertIs(row.__class__, tuple)
            squares = slow_squares(one, other)
            self.assertEqual((row[0], row[-1], len(row)), (one, other, len(squares) + 1))
            done = set()
            for card in row[1:]:
                free = [square for square in squares if square not in done
                        and all(other not in squares or other in done for other in
                                ((square[0], square[1] - 1, square[2]), (square[0], square[1], square[2] - 1)))]
                done.add(free[0])
                self.assertEqual(filled(one, card), done)
            self.assertIsNone(longest_fault(one, other, row))
            self.assertIsNone(longest_fault(one, other, list(row)))

    def test_how_many_rows(self):
        for one, other in small_pairs():
            if len(slow_squares(one, other)) <= 6:
                self.assertEqual(how_many_rows(one, other), self.slow_rows(one, other))
        self.assertEqual((how_many_rows(PLAIN, STEEP), how_many_rows(PLAIN, MIDDLE)), (2, 1))
        self.assertEqual(how_many_rows(STEEP, STEEP), 1)

    def slow_rows(self, one, other):
        squares = slow_squares(one, other)
        many = 0
        for order in permutations(squares):
            place = {square: k for k, square in enumerate(order)}
            many += all(place.get((c, x - 1, y), -1) < place[c, x, y] and place.get((c, x, y - 1), -1) < place[c, x, y]
                        for c, x, y in squares)
        return many

    def test_large_pairs(self):
        self.assertEqual(how_many_rows(plain_card(6, 1), Card.of_words("dodododododo")), 292864)
        self.assertEqual(how_many_rows(plain_card(5, 1), Card.of_words("dododododo")), 768)
        rows = 1
        for c in range(12):
            for k in range(15):
                rows = rows * (15 * c + k + 1) // (k + 1)
        self.assertEqual(how_many_rows(FAR, NEAR), rows * 292864 ** 12)
        row = longest_row(FAR, NEAR)
        self.assertEqual((len(row), row[0], row[-1]), (181, FAR, NEAR))
        self.assertIsNone(longest_fault(FAR, NEAR, row))


class LongestFaultTest(unittest.TestCase):
    def test_other_rows_are_right(self):
        self.assertIsNone(longest_fault(PLAIN, STEEP, (PLAIN, MIDDLE, RIGHT, STEEP)))
        self.assertIsNone(longest_fault(PLAIN, STEEP, [PLAIN, MIDDLE, LEFT, STEEP]))
        self.assertIsNone(longest_fault(PLAIN, PLAIN, [PLAIN]))

    def test_ends(self):
        for cards in ((), [], (MIDDLE, LEFT, STEEP), (PLAIN, MIDDLE, LEFT), (STEEP, PLAIN), (PLAIN,), (STEEP,)):
            self.assertEqual(longest_fault(PLAIN, STEEP, cards), "ends")
        self.assertEqual(longest_fault(PLAIN, PLAIN, ()), "ends")

    def test_step(self):
        for cards in ((PLAIN, STEEP), (PLAIN, MIDDLE, STEEP), (PLAIN, MIDDLE, MIDDLE, LEFT, STEEP),
                      (PLAIN, MIDDLE, PLAIN, MIDDLE, LEFT, STEEP), (PLAIN, MIDDLE, LEFT, RIGHT, STEEP),
                      (PLAIN, MIDDLE, LEFT, STEEP, STEEP), (PLAIN, LEFT, STEEP)):
            self.assertEqual(longest_fault(PLAIN, STEEP, cards), "step")
        self.assertEqual(longest_fault(PLAIN, PLAIN, (PLAIN, PLAIN)), "step")
        self.assertEqual(longest_fault(PLAIN, PLAIN, (PLAIN, MIDDLE, PLAIN)), "step")

    def test_one_more_and_one_less(self):
        one, other = plain_card(3, 2), Card.of_words("ddodoo", "ddodoo")
        half, swapped = Card.of_words("ddodoo", "dddooo"), Card.of_words("dddooo", "ddodoo")
        self.assertIsNone(longest_fault(one, other, (one, half, other)))
        self.assertEqual(longest_fault(one, other, (one, half, swapped, other)), "step")
        self.assertEqual(longest_fault(one, other, (one, other)), "step")

    def test_two_more_and_one_less(self):
        def card(*words):
            return Card.of_words(*["ddodoo" if word else "dddooo" for word in words])
        row = [card(0, 0, 0), card(1, 0, 0), card(0, 1, 1), card(1, 1, 1)]
        self.assertEqual(longest_fault(row[0], row[-1], row), "step")
        row[2] = card(1, 0, 1)
        self.assertIsNone(longest_fault(row[0], row[-1], row))


class RefusedTest(Raises, unittest.TestCase):
    CALLS = (squares_between, lambda *cards: list(cards_between(*cards)), how_many_between, longest_row, how_many_rows,
             lambda *cards: between_index(*cards, cards[0]), lambda *cards: between_at(*cards, 0),
             lambda *cards: between_at(*cards, None), lambda *cards: longest_fault(*cards, ()))

    def refused(self, error, told, one, other):
        for call in self.CALLS:
            self.raises(error, told, call, one, other)

    def test_cards(self):
        marked = Card.of_words("ddoo", "ddoo", marks=[(0, 1)])
        for thing in (*NO_NUMBERS, "dddooo", Anything()):
            self.refused(BadNest, {"index": 1, "what": "card"}, PLAIN, thing)
            self.refused(BadNest, {"index": 0, "what": "card"}, thing, PLAIN)
        self.refused(BadNest, {"index": 0, "what": "marks"}, marked, None)
        self.refused(BadNest, {"index": 1, "what": "marks"}, marked.unmarked(), marked)
        self.refused(BadNest, {"index": 1, "what": "size"}, STEEP, plain_card(2, 1))
        self.refused(BadNest, {"index": 1, "what": "width"}, STEEP, plain_card(3, 2))

    def test_not_behind(self):
        self.refused(NotBehind, {"column": 0, "boundary": 2}, STEEP, PLAIN)
        self.refused(NotBehind, {"column": 0, "boundary": 4}, RIGHT, LEFT)
        self.refused(NotBehind, {"column": 1, "boundary": 2},
                     Card.of_words("ddoo", "dodo", "dodo"), Card.of_words("dodo", "ddoo", "ddoo"))

    def test_the_third_card(self):
        for thing in (*NO_NUMBERS, Anything()):
            self.raises(BadNest, {"index": 2, "what": "card"}, between_index, PLAIN, STEEP, thing)
            self.raises(BadNest, {"index": 2, "what": "card"}, between_index, STEEP, PLAIN, thing)
        pair = plain_card(3, 2)
        marked = pair.with_marks([(0, 1)])
        self.raises(BadNest, {"index": 2, "what": "marks"}, between_index, pair, pair, marked)
        self.raises(BadNest, {"index": 2, "what": "size"}, between_index, STEEP, PLAIN, plain_card(2, 2))
        self.raises(BadNest, {"index": 2, "what": "width"}, between_index, STEEP, PLAIN, pair)
        self.raises(BadNest, {"index": 1, "what": "size"}, between_index, PLAIN, plain_card(2, 1), None)

    def test_not_between(self):
        self.raises(NotBehind, {"column": 0, "boundary": 2}, between_index, STEEP, PLAIN, PLAIN)
        self.raises(NotBetween, {"column": 0, "boundary": 3}, between_index, MIDDLE, STEEP, PLAIN)
        self.raises(NotBetween, {"column": 0, "boundary": 3}, between_index, PLAIN, PLAIN, MIDDLE)
        self.raises(NotBetween, {"column": 0, "boundary": 4}, between_index, PLAIN, LEFT, STEEP)
        # In column 1 the card is too low at boundary 2, in column 2 too high.
        one, other = Card.of_words("ddoo", "ddoo", "dodo"), Card.of_words("ddoo", "ddoo", "dodo")
        card = Card.of_words("ddoo", "dodo", "ddoo")
        self.raises(NotBetween, {"column": 1, "boundary": 2}, between_index, one, other, card)
        self.raises(NotBetween, {"column": 2, "boundary": 2}, between_index, one, other, card.part(0, 0).beside(
            Card.of_words("ddoo", "ddoo")))

    def test_no_such(self):
        for number in (*NO_NUMBERS, -1, 4 + 1, 10 ** 30):
            self.raises(NoSuch, {"number": number}, between_at, PLAIN, STEEP, number)
        for number in (1, -1, True):
            self.raises(NoSuch, {"number": number}, between_at, PLAIN, PLAIN, number)
        self.raises(NoSuch, {"number": 132 ** 12}, between_at, FAR, NEAR, 132 ** 12)
        self.assertEqual(between_at(PLAIN, STEEP, 4), STEEP)
