import random
import unittest
from itertools import combinations, permutations

from helpers import NO_NUMBERS, NO_SEQUENCES, Anything, Raises
from slitstairs.allcards import card_at, how_many_cards
from slitstairs.cards import Card
from slitstairs.errors import BadPages, NoColumn, NoLayer
from slitstairs.pages import Bulge, Pages, bulge_fault, least_bulge
from slitstairs.shut import layer_steps, thickest, thickness

CARD = Card.of_words("ddoo", "dodo")
EXAMPLE = Pages(CARD, CARD)


def some_pages():
    chance = random.Random(221)
    for size, width, pages in ((1, 1, 1), (1, 2, 3), (2, 2, 2), (2, 3, 4), (3, 2, 3), (3, 4, 6), (4, 3, 5), (6, 12, 6)):
        for _ in range(8 if width < 12 else 1):
            yield Pages(*[card_at(size, width, chance.randrange(how_many_cards(size, width))) for _ in range(pages)])


def slow_bulge(cards):
    totals = {(c, k): sum(thickness(card, c, k) for card in cards)
              for c in range(cards[0].width) for k in range(cards[0].size)}
    most = max(totals.values())
    return (most, *min(place for place, total in totals.items() if total == most))


def lots_of_pages(many):
    return [lot for length in range(many + 1) for lot in combinations(range(many), length)]


class PagesTest(Raises, unittest.TestCase):
    def test_attributes(self):
        cards = (CARD.with_marks([(0, 1)]), CARD.turned(), CARD)
        pages = Pages(*cards)
        self.assertEqual((pages.cards, pages.size, pages.width), (cards, 2, 2))
        self.assertEqual((len(pages), list(pages)), (3, list(cards)))
        self.assertIs(pages.cards.__class__, tuple)
        self.assertEqual(len(Pages(*[CARD] * 6)), 6)

    def test_thickness_and_layers(self):
        for pages in some_pages():
            for c in range(pages.width):
                for k in range(pages.size):
                    told = [(page, t) for page, card in enumerate(pages) for t in layer_steps(card, c, k)]
                    self.assertEqual(pages.layers_at(c, k), tuple(told))
                    self.assertEqual(pages.thickness_at(c, k), len(told))
                    self.assertEqual({part.__class__ for part in (pages.layers_at(c, k), *told)}, {tuple})

    def test_bulge(self):
        for pages in some_pages():
            self.assertEqual(pages.bulge(), slow_bulge(pages.cards))
        for pages in some_pages():
            self.assertEqual(Pages(pages.cards[0]).bulge(), thickest(pages.cards[0]))

    def test_ties(self):
        self.assertEqual(EXAMPLE.bulge(), (8, 1, 1))
        self.assertEqual(Pages(CARD, CARD.turned()).bulge(), (6, 0, 1))
        self.assertEqual(Pages(Card.of_words("ddoo", "ddoo")).bulge(), (2, 0, 0))

    def test_orders(self):
        for pages in some_pages():
            for order in list(permutations(range(len(pages))))[:30]:
                other = pages.in_order(list(order))
                self.assertIs(other.__class__, Pages)
                self.assertEqual(other.cards, tuple(pages.cards[index] for index in order))
                self.assertEqual(other, pages.in_order(order))
                self.assertEqual(other.bulge(), pages.bulge())
                for c in range(min(pages.width, 2)):
                    for k in range(pages.size):
                        self.assertEqual(other.thickness_at(c, k), pages.thickness_at(c, k))

    def test_turned(self):
        for pages in some_pages():
            for lot in lots_of_pages(len(pages))[::3]:
                other = pages.with_turned(list(lot)[::-1])
                self.assertEqual(other.cards, tuple(
                    card.turned() if index in lot else card for index, card in enumerate(pages.cards)))
                self.assertEqual(other, pages.with_turned(lot))
                self.assertEqual(other.with_turned(lot), pages)
        self.assertEqual(EXAMPLE.with_turned(()), EXAMPLE)

    def test_mirrored_books(self):
        for pages in some_pages():
            self.assertEqual(Pages(*[card.mirrored() for card in pages]).bulge(), pages.bulge())

    def test_equality(self):
        pages = Pages(CARD, CARD.turned())
        self.assertEqual(pages, Pages(Card.of_words("ddoo", "dodo"), Card.of_words("dodo", "ddoo")))
        for other in (Pages(CARD.turned(), CARD), Pages(CARD), Pages(CARD, CARD.turned(), CARD),
                      Pages(CARD.with_marks([(0, 1)]), CARD.turned()), None, (CARD, CARD.turned()), CARD):
            self.assertFalse(pages == other)
            self.assertTrue(pages != other)
        self.assertIs(pages.__eq__(Anything()), False)


class PagesErrorsTest(Raises, unittest.TestCase):
    def test_cards(self):
        self.raises(BadPages, {"index": 0, "what": "cards"}, Pages)
        self.raises(BadPages, {"index": 6, "what": "cards"}, Pages, *[None] * 7)
        self.raises(BadPages, {"index": 6, "what": "cards"}, Pages, *[CARD] * 9)
        small, wide = Card.of_words("do", "do"), Card.of_words("ddoo")
        for thing in (*NO_NUMBERS, CARD.columns[0], [CARD], ("ddoo", "dodo"), Anything()):
            self.raises(BadPages, {"index": 0, "what": "card"}, Pages, thing)
            self.raises(BadPages, {"index": 3, "what": "card"}, Pages, CARD, small, wide, thing, None)
        self.raises(BadPages, {"index": 2, "what": "size"}, Pages, CARD, wide, small)
        self.raises(BadPages, {"index": 1, "what": "size"}, Pages, small, CARD)
        self.raises(BadPages, {"index": 1, "what": "width"}, Pages, CARD, wide)
        self.raises(BadPages, {"index": 2, "what": "width"}, Pages, wide, wide, CARD)

    def test_columns_and_layers(self):
        for thing in (*NO_NUMBERS, -1, 2, 10 ** 20):
            for call in (EXAMPLE.thickness_at, EXAMPLE.layers_at):
                self.raises(NoColumn, {"column": thing}, call, thing, None)
                self.raises(NoLayer, {"layer": thing}, call, 1, thing)

    def test_orders_and_lots(self):
        pages = Pages(CARD, CARD, CARD)
        wrong = [*NO_SEQUENCES, (0, 0, 1), [0, 1, 1], (3, 0, 1), (-1, 0, 1), "012",
                 *[(0, thing, 2) for thing in (*NO_NUMBERS, Anything())]]
        for thing in (*wrong, (), (0,), (0, 1), (0, 1, 2, 0), (0, 1, 2, 3)):
            self.raises(BadPages, {"index": 0, "what": "order"}, pages.in_order, thing)
        for thing in (*wrong, (0, 1, 2, 0), (0, 1, 2, 3), (3,), [2, 2]):
            self.raises(BadPages, {"index": 0, "what": "lot"}, pages.with_turned, thing)
        order, lot = [2, 0, 1], [2, 0]
        other, turned = pages.in_order(order), pages.with_turned(lot)
        self.assertEqual((order, lot), ([2, 0, 1], [2, 0]))
        order.pop()
        lot.pop()
        self.assertEqual((other, turned), (pages, pages.with_turned((0, 2))))


class LeastBulgeTest(unittest.TestCase):
    def test_the_example(self):
        found = least_bulge(EXAMPLE)
        self.assertEqual((found.least, found.lots), (6, ((0,), (1,))))
        self.assertEqual(found.worst, (((), 8, 1, 1), ((0,), 6, 0, 1), ((1,), 6, 0, 1), ((0, 1), 8, 0, 1)))

    def test_against_all_lots(self):
        kinds = []
        for pages in some_pages():
            lots = lots_of_pages(len(pages))
            worst = [(lot, *slow_bulge([card.turned() if index in lot else card for index, card in enumerate(pages.cards)]))
                     for lot in (lots if pages.width < 12 else lots[::9])]
            found = least_bulge(pages)
            if pages.width == 12:
                self.assertEqual(found.worst[::9], tuple(worst))
                continue
            least = min(number for _, number, _, _ in worst)
            best = [lot for lot, number, _, _ in worst if number == least]
            best = tuple(lot for lot in best if not any(set(other) < set(lot) for other in best))
            self.assertEqual((found.worst, found.least, found.lots), (tuple(worst), least, best))
            self.assertEqual({part.__class__ for part in (found.worst, found.lots, *found.worst, *found.lots)}, {tuple})
            self.assertIsNone(bulge_fault(pages, found.least, found.lots, found.worst))
            kinds.append(best)
        self.assertGreater(len([best for best in kinds if best != ((),)]), 8)
        self.assertGreater(max(len(best) for best in kinds), 2)

    def test_equality(self):
        found = least_bulge(EXAMPLE)
        self.assertEqual(found, least_bulge(Pages(CARD, CARD)))
        parts = (found.least, found.lots, found.worst)
        for k, other in enumerate((7, ((0,),), ())):
            self.assertFalse(found == Bulge(*parts[:k], other, *parts[k + 1:]))
        for other in (None, parts, EXAMPLE):
            self.assertFalse(found == other)
        self.assertIs(found.__eq__(Anything()), False)


class BulgeFaultTest(unittest.TestCase):
    def setUp(self):
        self.found = least_bulge(EXAMPLE)

    def fault(self, **changes):
        told = {**vars(self.found), **changes}
        return bulge_fault(EXAMPLE, told["least"], told["lots"], told["worst"])

    def test_right(self):
        self.assertIsNone(self.fault())

    def test_worst(self):
        worst = self.found.worst
        for thing in (*NO_NUMBERS, *NO_SEQUENCES, (), worst[1:], worst[::-1], (*worst, ((), 8, 1, 1)), list(worst), Anything(),
                      (list(worst[0]), *worst[1:]), (([], 8, 1, 1), *worst[1:]), (((), 8, 1), *worst[1:]),
                      (((), 8, True, 1), *worst[1:]), (((), 8, 1, 0), *worst[1:]), (((), 8.0, 1, 1), *worst[1:]),
                      (worst[0], ((False,), 6, 0, 1), *worst[2:]), (worst[0], ((0,), 6, False, 1), *worst[2:]),
                      (worst[0], ((Anything(),), 6, 0, 1), *worst[2:]), (((), Anything(), 1, 1), *worst[1:])):
            self.assertEqual(self.fault(worst=thing, least=None, lots=None), "worst")

    def test_least(self):
        for thing in (*NO_NUMBERS, 5, 7, 8, (6,), "6", 6.0, Anything()):
            self.assertEqual(self.fault(least=thing, lots=None), "least")

    def test_lots(self):
        for thing in (*NO_NUMBERS, *NO_SEQUENCES, (), ((0,),), ((1,), (0,)), ((0,), (1,), (0, 1)), [(0,), (1,)], ([0], (1,)),
                      ((False,), (True,)), ((0,), (True,)), ((0,), 1), (0, 1), ((0,), (1,), ()), Anything()):
            self.assertEqual(self.fault(lots=thing), "lots")

    def test_a_book_whose_bulge_is_one(self):
        # True equals 1, but it is no whole number.
        pages = Pages(Card.of_words("do"))
        found = least_bulge(pages)
        self.assertEqual((found.least, found.lots, found.worst), (2, ((),), (((), 2, 0, 0), ((0,), 2, 0, 0))))
        self.assertEqual(bulge_fault(pages, 2, ((),), (((), 2, False, 0), ((0,), 2, 0, 0))), "worst")
