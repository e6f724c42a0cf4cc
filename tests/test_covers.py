import random
import unittest
from itertools import combinations, product

from helpers import NO_NUMBERS, Anything, Raises, all_words, heights_of
from slitstairs.allcards import all_cards, plain_card
from slitstairs.cards import Card
from slitstairs.columns import Column
from slitstairs.covers import NestCover, cover_fault, fewest_nests
from slitstairs.errors import BadNest

PLAIN = Card.of_words("dddooo")
MIDDLE = Card.of_words("ddodoo")
LEFT = Card.of_words("doddoo")
RIGHT = Card.of_words("ddoodo")
STEEP = Card.of_words("dododo")


def lies_behind(one, other):
    return all(height >= least for word, below in zip(one.words, other.words)
               for height, least in zip(heights_of(word), heights_of(below)))


def widest(cards):
    """The greatest number of cards of which no two lie behind one another, out of all lots."""
    bad = {(k, n) for k, n in combinations(range(len(cards)), 2)
           if lies_behind(cards[k], cards[n]) or lies_behind(cards[n], cards[k])}
    for many in range(len(cards), 0, -1):
        for lot in combinations(range(len(cards)), many):
            if not any(pair in bad for pair in combinations(lot, 2)):
                return many


def thinnest(cards):
    """The fewest nests, out of all ways to sort the cards into lots."""
    def ways(number, lots):
        if number == len(cards):
            return len(lots)
        best = len(cards)
        for k, lot in enumerate(lots):
            if all(lies_behind(cards[number], cards[n]) or lies_behind(cards[n], cards[number]) for n in lot):
                best = min(best, ways(number + 1, [*lots[:k], [*lot, number], *lots[k + 1:]]))
        return min(best, ways(number + 1, [*lots, [number]]))
    return ways(0, [])


class FewestNestsTest(unittest.TestCase):
    def cover(self, *cards):
        """The cover, looked through without the judge."""
        found = fewest_nests(*cards)
        self.assertIs(found.__class__, NestCover)
        self.assertEqual(list(vars(found)), ["nests", "crossing"])
        self.assertEqual({part.__class__ for part in (found.nests, found.crossing, *found.nests)}, {tuple})
        held = [index for nest in found.nests for index in nest]
        self.assertEqual(sorted(held), list(range(len(cards))))
        for nest in found.nests:
            self.assertTrue(nest)
            for one, other in zip(nest, nest[1:]):
                self.assertTrue(lies_behind(cards[one], cards[other]))
        self.assertEqual(len(found.crossing), len(found.nests))
        self.assertEqual(found.crossing, tuple(sorted(set(found.crossing))))
        for one, other in combinations(found.crossing, 2):
            self.assertFalse(lies_behind(cards[one], cards[other]) or lies_behind(cards[other], cards[one]))
        self.assertIsNone(cover_fault(cards, found))
        self.assertIsNone(cover_fault(list(cards), found))
        return found

    def test_one_nest(self):
        self.assertEqual(self.cover(STEEP, PLAIN, MIDDLE).nests, ((1, 2, 0),))
        self.assertEqual(self.cover(LEFT).nests, ((0,),))

    def test_two_nests(self):
        found = self.cover(LEFT, RIGHT)
        self.assertEqual((sorted(found.nests), found.crossing), ([(0,), (1,)], (0, 1)))
        self.assertEqual(self.cover(STEEP, LEFT, PLAIN, RIGHT, MIDDLE).crossing, (1, 3))

    def test_equal_cards(self):
        self.assertEqual(len(self.cover(*[LEFT] * 8).nests), 1)
        self.assertEqual(len(self.cover(LEFT, RIGHT, LEFT, RIGHT, RIGHT).nests), 2)

    def test_cards_that_must_change_their_nests(self):
        # Card 1 may stand behind 2 and behind 3, card 0 behind 2 alone: card 1 must give way.
        words = all_words(4)
        for lot in product(words[2:9], repeat=4):
            cards = [Card.of_words(word) for word in lot]
            self.assertEqual(len(fewest_nests(*cards).nests), widest(cards))

    def test_all_lots_of_small_columns(self):
        cards = list(all_cards(3, 1))
        for many in range(1, 5):
            for lot in product(cards, repeat=many):
                self.assertEqual(len(self.cover(*lot).nests), thinnest(lot))

    def test_up_to_eight_cards(self):
        chance = random.Random(8)
        for size, width in ((2, 3), (3, 2), (4, 1), (5, 1), (3, 3)):
            cards = list(all_cards(size, width))
            for many in (5, 6, 7, 8, 8, 8):
                for _ in range(8):
                    lot = [chance.choice(cards) for _ in range(many)]
                    found = self.cover(*lot)
                    self.assertEqual((len(found.nests), len(found.nests)), (widest(lot), thinnest(lot)))

    def test_eight_cards_that_cross(self):
        words = [["ddoo"] * 8 for _ in range(8)]
        for k in range(8):
            words[k][k] = "dodo"
        cards = [Card.of_words(*row) for row in words]
        self.assertEqual(self.cover(*cards).crossing, tuple(range(8)))

    def test_greatest_cards(self):
        cards = [Card.of_words(*["ddddddoooooo"] * k, *["dodododododo"] * (12 - k)) for k in range(7)]
        self.assertEqual(self.cover(*cards).nests, ((6, 5, 4, 3, 2, 1, 0),))

    def test_results_keep_what_they_are_passed(self):
        self.assertEqual(vars(NestCover("x", None)), {"nests": "x", "crossing": None})


class CoverFaultTest(unittest.TestCase):
    CARDS = (STEEP, LEFT, PLAIN, RIGHT, MIDDLE)
    NESTS = ((2, 4, 1), (3, 0))

    def fault(self, nests, crossing):
        found = cover_fault(self.CARDS, NestCover(nests, crossing))
        self.assertEqual(cover_fault(list(self.CARDS), NestCover(nests, crossing)), found)
        return found

    def test_right_ones(self):
        self.assertIsNone(self.fault(self.NESTS, (1, 3)))
        self.assertIsNone(self.fault(((3,), (2, 4, 1, 0)), (1, 3)))
        self.assertIsNone(self.fault(((4, 3, 0), (2, 1)), (1, 3)))

    def test_equal_cards_in_any_order(self):
        for nest in ((0, 1, 2), (2, 0, 1)):
            self.assertIsNone(cover_fault([LEFT, LEFT, LEFT], NestCover((nest,), (1,))))

    def test_index(self):
        for thing in (*NO_NUMBERS, -1, 5, Anything()):
            self.assertEqual(self.fault(((2, 4, 1), (3, thing)), (1, 3)), "index")
            self.assertEqual(self.fault(((2, 4, 1), (3, 0, thing)), (1, 3)), "index")
            self.assertEqual(self.fault(self.NESTS, (1, thing)), "index")
            self.assertEqual(self.fault(self.NESTS, (1, 3, thing)), "index")
        self.assertEqual(self.fault(((2, 4), (3, 3)), (1, 9)), "index")

    def test_nests(self):
        self.assertEqual(self.fault(((2, 4, 1), (3,)), (1, 3)), "nests")
        self.assertEqual(self.fault(((2, 4, 1), (3, 0, 1)), (1, 3)), "nests")
        self.assertEqual(self.fault(((2, 4, 1), (3, 0, 0)), (1, 3)), "nests")
        self.assertEqual(self.fault(((2, 4, 1), (3, 3)), (1, 3)), "nests")
        self.assertEqual(self.fault((), ()), "nests")
        self.assertEqual(self.fault(((4, 2, 1), (3, 0, 0)), (3, 1)), "nests")

    def test_order(self):
        self.assertEqual(self.fault(((4, 2, 1), (3, 0)), (1, 3)), "order")
        self.assertEqual(self.fault(((2, 4, 1, 3, 0),), (1,)), "order")
        self.assertEqual(self.fault(((2, 4, 1), (0, 3)), (3, 1)), "order")

    def test_crossing(self):
        self.assertEqual(self.fault(self.NESTS, (3, 1)), "crossing")
        self.assertEqual(self.fault(self.NESTS, (1, 1)), "crossing")
        self.assertEqual(self.fault(self.NESTS, (1,)), "crossing")
        self.assertEqual(self.fault(self.NESTS, (1, 3, 4)), "crossing")
        self.assertEqual(self.fault(self.NESTS, ()), "crossing")
        self.assertEqual(self.fault(self.NESTS, (1, 4)), "crossing")
        self.assertEqual(self.fault(self.NESTS, (0, 4)), "crossing")
        self.assertEqual(self.fault(self.NESTS, (2, 3)), "crossing")
        self.assertEqual(self.fault(((2, 4), (1,), (3, 0)), (1, 3)), "crossing")
        self.assertEqual(self.fault(((2, 4), (1,), (3, 0)), (0, 1, 3)), "crossing")
        self.assertEqual(self.fault((*self.NESTS, ()), (1, 3)), "crossing")


class WrongCardsTest(Raises, unittest.TestCase):
    def refused(self, index, what, *cards):
        told = {"index": index, "what": what}
        self.raises(BadNest, told, fewest_nests, *cards)
        self.raises(BadNest, told, cover_fault, cards, NestCover((), ()))
        self.raises(BadNest, told, cover_fault, list(cards), NestCover((None,), "x"))

    def test_none_and_nine(self):
        self.refused(0, "empty")
        self.refused(8, "many", *[PLAIN] * 9)
        self.refused(8, "many", *[None] * 9)
        self.refused(8, "many", *[PLAIN] * 30)

    def test_wrong_cards(self):
        marked = Card.of_words("ddoo", "ddoo", marks=[(0, 1)])
        for thing in (*NO_NUMBERS, Column("dddooo"), [PLAIN], Anything()):
            self.refused(0, "card", thing)
            self.refused(7, "card", *[PLAIN] * 7, thing)
        self.refused(0, "marks", marked, None)
        self.refused(1, "marks", marked.unmarked(), marked)
        self.refused(1, "size", PLAIN, plain_card(2, 2), None)
        self.refused(2, "width", PLAIN, STEEP, plain_card(3, 2))
