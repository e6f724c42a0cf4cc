import random
import unittest
from itertools import product

from helpers import NO_NUMBERS, NO_SEQUENCES, Anything, Raises, all_words
from slitstairs.allcards import all_cards, card_at, how_many_cards
from slitstairs.cards import Card
from slitstairs.errors import BadPlace, BadSlope, BadView, NoColumn, NoSuch
from slitstairs.prints import Print
from slitstairs.views import cell_seen, cell_span, front_view, print_from, slope_view, top_view

EXAMPLE = Card.of_words("ddoodo")
INKS = Print([[5, 6, 6, 7, 5, 5]])
SLOPES = [slope for slope in product(range(10), repeat=2) if slope != (0, 0)]
FEW_SLOPES = [(1, 0), (0, 1), (1, 1), (2, 1), (1, 2), (9, 4), (0, 9), (9, 9), (3, 0)]


def some_cards():
    """Cards, each with a print of few inks."""
    chance = random.Random(171)
    for size, width in ((1, 1), (1, 3), (2, 1), (2, 2), (3, 1), (3, 2), (4, 1)):
        for card in all_cards(size, width):
            yield card, some_print(chance, size, width)
    for size, width in ((4, 3), (5, 4), (6, 2), (6, 12)):
        for _ in range(5):
            card = card_at(size, width, chance.randrange(how_many_cards(size, width)))
            yield card.with_marks([(0, 1)]), some_print(chance, size, width)


def some_print(chance, size, width):
    inks = chance.choice((1, 2, 3, 100))
    return Print([[chance.randrange(-inks, inks) for _ in range(2 * size)] for _ in range(width)])


def slow_spots(word, inks, p, q):
    """What each spot of a column shows: (step, ink)."""
    return [(t, ink) for t, (letter, ink) in enumerate(zip(word, inks)) for _ in range(p if letter == "d" else q)]


class FrontAndTopTest(Raises, unittest.TestCase):
    def test_the_example(self):
        self.assertEqual((front_view(EXAMPLE, INKS), top_view(EXAMPLE, INKS)), (((5, 6, 5),), ((6, 7, 5),)))

    def test_by_hand(self):
        card = Card.of_words("ddoo", "dodo", marks=[(0, 1)])
        printed = Print([[1, 2, 3, 4], [5, 6, 7, 8]])
        self.assertEqual((front_view(card, printed), top_view(card, printed)), (((1, 2), (5, 7)), ((3, 4), (6, 8))))

    def test_each_cell_is_seen_once(self):
        for card, printed in some_cards():
            numbered = Print([[10 * c + t for t in range(2 * card.size)] for c in range(card.width)])
            front, top = front_view(card, numbered), top_view(card, numbered)
            for c, word in enumerate(card.words):
                self.assertEqual(front[c], tuple(10 * c + t for t, letter in enumerate(word) if letter == "d"))
                self.assertEqual(sorted(front[c] + top[c]), [10 * c + t for t in range(2 * card.size)])
            for view in (front_view(card, printed), top_view(card, printed)):
                self.assertEqual({part.__class__ for part in (view, *view)}, {tuple})
                self.assertEqual([len(row) for row in view], [card.size] * card.width)

    def test_marks_are_never_seen(self):
        for card, printed in some_cards():
            plain = card.unmarked()
            self.assertEqual(front_view(card, printed), front_view(plain, printed))
            self.assertEqual(top_view(card, printed), top_view(plain, printed))
            self.assertEqual(slope_view(card, printed, 2, 3), slope_view(plain, printed, 2, 3))

    def test_misfits(self):
        for printed in (Print.plain(2, 1), Print.plain(3, 2), Print.plain(4, 1), Print.plain(1, 3)):
            self.raises(BadView, {"what": "print"}, front_view, EXAMPLE, printed)
            self.raises(BadView, {"what": "print"}, top_view, EXAMPLE, printed)
            self.raises(BadView, {"what": "print"}, slope_view, EXAMPLE, printed, None, None)


class PrintFromTest(Raises, unittest.TestCase):
    def test_there_and_back(self):
        for card, printed in some_cards():
            front, top = front_view(card, printed), top_view(card, printed)
            self.assertEqual(print_from(card, front, top), printed)
            self.assertEqual(print_from(card, [list(row) for row in front], [list(row) for row in top]), printed)

    def test_views_of_the_print(self):
        chance = random.Random(172)
        for card, _ in some_cards():
            front, top = (tuple(tuple(chance.randrange(9) for _ in range(card.size)) for _ in range(card.width))
                          for _ in range(2))
            printed = print_from(card, front, top)
            self.assertIs(printed.__class__, Print)
            self.assertEqual((front_view(card, printed), top_view(card, printed)), (front, top))

    def test_misfits(self):
        right = ((1, 2, 3),)
        wrong = (*NO_SEQUENCES, (), right * 2, (1, 2, 3), ((1, 2),), ((1, 2, 3, 4),), [None], ["123"], [range(3)], ({1, 2, 3},),
                 *[([1, thing, 3],) for thing in (*NO_NUMBERS, Anything())])
        for thing in wrong:
            self.raises(BadView, {"what": "front"}, print_from, EXAMPLE, thing, thing)
            self.raises(BadView, {"what": "top"}, print_from, EXAMPLE, right, thing)
        card = Card.of_words("ddoo", "dodo")
        self.raises(BadView, {"what": "front"}, print_from, card, ((1, 2), (3,)), None)
        self.raises(BadView, {"what": "top"}, print_from, card, ((1, 2), (3, 4)), ((1, 2), (3, True)))

    def test_lists_are_neither_kept_nor_changed(self):
        front, top = [[1, 2, 3]], [[4, 5, 6]]
        printed = print_from(EXAMPLE, front, top)
        self.assertEqual((front, top), ([[1, 2, 3]], [[4, 5, 6]]))
        front[0][0] = 9
        top[0].append(9)
        self.assertEqual(printed.inks, ((1, 2, 4, 5, 3, 6),))


class SlopeViewTest(Raises, unittest.TestCase):
    def test_the_example(self):
        self.assertEqual(slope_view(EXAMPLE, INKS, 2, 1), (((5, 2), (6, 3), (7, 1), (5, 3)),))
        self.assertEqual(slope_view(EXAMPLE, INKS, 1, 0), (((5, 1), (6, 1), (5, 1)),))
        self.assertEqual(slope_view(EXAMPLE, INKS, 0, 3), (((6, 3), (7, 3), (5, 3)),))

    def test_joined_over_lengths_of_0(self):
        # From the front the cell o between the two cells d is not there.
        card = Card.of_words("dodo")
        printed = Print([[1, 2, 1, 3]])
        self.assertEqual(slope_view(card, printed, 4, 0), (((1, 8),),))
        self.assertEqual(slope_view(card, printed, 0, 4), (((2, 4), (3, 4)),))
        self.assertEqual(slope_view(card, printed, 4, 1), (((1, 4), (2, 1), (1, 4), (3, 1)),))
        self.assertEqual(slope_view(card, Print.plain(2, 1, 7), 9, 2), (((7, 22),),))

    def test_against_spots(self):
        for card, printed in some_cards():
            for p, q in FEW_SLOPES if card.width > 2 else SLOPES[::7]:
                found = slope_view(card, printed, p, q)
                self.assertEqual(len(found), card.width)
                for pieces, word, inks in zip(found, card.words, printed.inks):
                    self.assertEqual([ink for ink, length in pieces for _ in range(length)],
                                     [ink for _, ink in slow_spots(word, inks, p, q)])
                    self.assertTrue(all(length > 0 for _, length in pieces))
                    self.assertTrue(all(one[0] != other[0] for one, other in zip(pieces, pieces[1:])))
                    self.assertEqual({part.__class__ for part in (found, pieces, *pieces)}, {tuple})

    def test_wrong_slopes(self):
        calls = (lambda p, q: slope_view(EXAMPLE, INKS, p, q), lambda p, q: cell_span(EXAMPLE, 0, 0, p, q),
                 lambda p, q: cell_seen(EXAMPLE, 0, None, p, q))
        for call in calls:
            for thing in (*NO_NUMBERS, Anything(), -1, 10, 10 ** 20):
                self.raises(BadSlope, {"what": "p"}, call, thing, thing)
                self.raises(BadSlope, {"what": "p"}, call, thing, 0)
                self.raises(BadSlope, {"what": "q"}, call, 0, thing)
                self.raises(BadSlope, {"what": "q"}, call, 9, thing)
            self.raises(BadSlope, {"what": "both"}, call, 0, 0)


class SpanTest(Raises, unittest.TestCase):
    def test_by_hand(self):
        # The column ddoodo from the slope (2, 1).
        self.assertEqual([cell_span(EXAMPLE, 0, step, 2, 1) for step in range(6)],
                         [(0, 2), (2, 4), (4, 5), (5, 6), (6, 8), (8, 9)])
        self.assertEqual([cell_span(EXAMPLE, 0, step, 0, 3) for step in range(6)],
                         [(0, 0), (0, 0), (0, 3), (3, 6), (6, 6), (6, 9)])
        self.assertEqual([cell_seen(EXAMPLE, 0, spot, 0, 1) for spot in range(3)], [2, 3, 5])

    def test_spans_add_up(self):
        for card, _ in list(some_cards())[::4]:
            for c, step in product(range(card.width), range(2 * card.size)):
                front, top = cell_span(card, c, step, 1, 0), cell_span(card, c, step, 0, 1)
                for p, q in FEW_SLOPES:
                    self.assertEqual(cell_span(card, c, step, p, q), tuple(p * d + q * o for d, o in zip(front, top)))
                self.assertEqual((front[1] - front[0], top[1] - top[0]), (1, 0) if card.words[c][step] == "d" else (0, 1))

    def test_every_spot(self):
        for size in (1, 2, 3, 4):
            for word in all_words(size):
                card = Card.of_words(word)
                for p, q in SLOPES if size < 4 else FEW_SLOPES:
                    spots = slow_spots(word, [0] * len(word), p, q)
                    self.assertEqual(len(spots), size * (p + q))
                    for spot, (step, _) in enumerate(spots):
                        self.assertEqual(cell_seen(card, 0, spot, p, q), step)
                        start, end = cell_span(card, 0, step, p, q)
                        self.assertTrue(start <= spot < end)
                    for spot in (-1, len(spots), 10 ** 20, *NO_NUMBERS):
                        self.raises(NoSuch, {"number": spot}, cell_seen, card, 0, spot, p, q)

    def test_spots_of_other_columns(self):
        card = Card.of_words("ddoo", "dodo")
        self.assertEqual([cell_seen(card, c, 1, 2, 1) for c in (0, 1)], [0, 0])
        self.assertEqual([cell_seen(card, c, 2, 2, 1) for c in (0, 1)], [1, 1])
        self.assertEqual([cell_seen(card, c, 3, 2, 1) for c in (0, 1)], [1, 2])
        self.assertEqual([cell_span(card, c, 1, 2, 1) for c in (0, 1)], [(2, 4), (2, 3)])

    def test_wrong_cells(self):
        card = Card.of_words("ddoo", "dodo")
        for thing in (*NO_NUMBERS, -1, 2, 10 ** 20):
            self.raises(BadPlace, {"column": thing, "step": 0}, cell_span, card, thing, 0, None, None)
            self.raises(NoColumn, {"column": thing}, cell_seen, card, thing, None, None, None)
        for thing in (*NO_NUMBERS, -1, 4, 10 ** 20):
            self.raises(BadPlace, {"column": 1, "step": thing}, cell_span, card, 1, thing, 0, 0)
            self.raises(BadPlace, {"column": None, "step": thing}, cell_span, card, None, thing, 0, 0)


class TurnedTest(unittest.TestCase):
    def test_mirrored(self):
        for card, printed in some_cards():
            other, inks = card.mirrored(), printed.mirrored()
            self.assertEqual(front_view(other, inks), tuple(row[::-1] for row in top_view(card, printed)))
            self.assertEqual(top_view(other, inks), tuple(row[::-1] for row in front_view(card, printed)))
            for p, q in FEW_SLOPES:
                self.assertEqual(slope_view(other, inks, p, q),
                                 tuple(row[::-1] for row in slope_view(card, printed, q, p)))

    def test_turned(self):
        for card, printed in some_cards():
            other, inks = card.turned(), printed.turned()
            self.assertEqual(front_view(other, inks), front_view(card, printed)[::-1])
            self.assertEqual(top_view(other, inks), top_view(card, printed)[::-1])
            for p, q in FEW_SLOPES:
                self.assertEqual(slope_view(other, inks, p, q), slope_view(card, printed, p, q)[::-1])
