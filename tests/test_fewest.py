import random
import unittest
from itertools import product

from helpers import NO_NUMBERS, NO_SEQUENCES, Anything, Raises, all_words, common_of, kind_wish, slow_granted, some_wish
from slitstairs.cards import Card
from slitstairs.errors import NoWord
from slitstairs.fewest import Fewest, fewest_fault, fewest_slits
from slitstairs.prints import Print
from slitstairs.wishes import Wish


def some_wishes():
    chance = random.Random(78)
    for size, width in ((1, 1), (1, 3), (2, 1), (2, 3), (3, 1), (3, 2), (3, 3), (4, 2), (2, 5)):
        for wished in (0, 10, 20, 30, 50):
            for inks in (1, 2, 2, 3):
                yield some_wish(chance, size, width, wished, inks, Print, Wish)
                yield kind_wish(chance, size, width, min(100, 2 * wished), inks, Print, Wish)


def slits(words):
    return sum(len(one) - len(common_of(one, other)) for one, other in zip(words, words[1:]))


def slow_prices(lots):
    """For each word of each lot the fewest slit edges, by trying all rows of words."""
    return tuple(tuple(min(slits((*row, word)) for row in product(*lots[:c])) for word in lot) for c, lot in enumerate(lots))


class FewestSlitsTest(Raises, unittest.TestCase):
    def test_against_all_granted_cards(self):
        found_slits = set()
        for wish in some_wishes():
            lots = [slow_granted(wish, c) for c in range(wish.width)]
            empty = [c for c, lot in enumerate(lots) if not lot]
            if empty:
                self.raises(NoWord, {"column": empty[0]}, fewest_slits, wish)
                continue
            best = min(product(*lots), key=lambda words: (slits(words), words))
            found = fewest_slits(wish)
            self.assertIs(found.__class__, Fewest)
            self.assertEqual(found.card, Card.of_words(*best))
            self.assertEqual((found.slits, found.slits), (slits(best), found.card.all_slit_edges()))
            self.assertEqual(found.prices, slow_prices(lots))
            self.assertEqual({part.__class__ for part in (found.prices, *found.prices)}, {tuple})
            self.assertIsNone(fewest_fault(wish, found))
            found_slits.add(found.slits)
        self.assertGreater(len(found_slits), 4)

    def test_by_hand(self):
        wish = Wish(Print(((1, 2, 1, 1, 2, 2), (0,) * 6)), ((1, 2, 1), (None,) * 3), ((1, 2, 2), (None,) * 3))
        found = fewest_slits(wish)
        self.assertEqual((found.card.words, found.slits), (("dddooo", "dddooo"), 0))
        self.assertEqual(found.prices, ((0, 0), (0, 0, 2, 2, 4)))

    def test_the_first_card_of_several(self):
        # Columns 0 and 2 are told, the one between them may be any on the way.
        printed = Print([[1, 1, 1, 0, 0, 0], [0] * 6, [1, 0, 1, 0, 1, 0]])
        wish = Wish(printed, [[1] * 3, [None] * 3, [1] * 3], [[0] * 3, [None] * 3, [0] * 3])
        best = min((slits(("dddooo", word, "dododo")), word) for word in all_words(3))
        self.assertEqual(fewest_slits(wish).card.words, ("dddooo", best[1], "dododo"))

    def test_a_great_wish(self):
        free = [[None] * 6] * 12
        found = fewest_slits(Wish(Print.plain(6, 12), free, free))
        self.assertEqual((found.slits, found.card), (0, Card.of_words(*["ddddddoooooo"] * 12)))
        self.assertEqual(found.prices, ((0,) * 132,) * 12)
        wish = kind_wish(random.Random(79), 6, 12, 40, 3, Print, Wish)
        found = fewest_slits(wish)
        self.assertEqual(found.slits, slits(found.card.words))
        self.assertIsNone(fewest_fault(wish, found))


class FewestFaultTest(unittest.TestCase):
    WISH = Wish(Print(((1, 2, 1, 1, 2, 2), (0,) * 6, (0,) * 6)), ((1, 2, 1), (0, None, 0), (None,) * 3),
                ((1, 2, 2), (None,) * 3, (1, None, None)))

    def setUp(self):
        # The last column has no granted word with this entry, so it is left out.
        self.wish = self.WISH.loosened(("top", 2, 0))
        self.found = fewest_slits(self.wish)

    def fault(self, **changes):
        return fewest_fault(self.wish, Fewest(**{**vars(self.found), **changes}))

    def test_right_papers(self):
        self.assertIsNone(self.fault())
        # Lower prices on the way do no harm.
        prices = [list(row) for row in self.found.prices]
        prices[0] = [price - 5 for price in prices[0]]
        self.assertEqual(self.fault(prices=tuple(map(tuple, prices))), "move")
        prices = [[min(row)] * len(row) for row in self.found.prices]
        self.assertIsNone(self.fault(prices=tuple(map(tuple, prices))))

    def test_another_card_with_as_few_slit_edges(self):
        others = [words for words in product(*[slow_granted(self.wish, c) for c in range(3)])
                  if slits(words) == self.found.slits and words != self.found.card.words]
        self.assertTrue(others)
        for words in others:
            self.assertIsNone(self.fault(card=Card.of_words(*words)))

    def test_card(self):
        marked = self.found.card.with_marks([(0, 1)])
        for thing in (*NO_NUMBERS, None, marked, Card.of_words("dddooo"), Card.of_words("ddoodo", "dddooo", "dddooo"),
                      Card.of_words("ddoo", "ddoo", "ddoo"), self.found.card.words, Anything()):
            self.assertEqual(self.fault(card=thing, slits=None, prices=None), "card")
        self.assertEqual(fewest_fault(self.WISH, self.found) is None, self.found.card in self.WISH)

    def test_no_word_at_all(self):
        wish = Wish(Print.plain(3, 3), [[1] * 3] * 3, [[None] * 3] * 3)
        self.assertEqual(fewest_fault(wish, self.found), "card")

    def test_slits(self):
        for thing in (*NO_NUMBERS, self.found.slits + 1, self.found.slits - 1, -1, Anything()):
            self.assertEqual(self.fault(slits=thing, prices=None), "slits")
        card = Card.of_words("dddooo", "ddoodo", "dddooo")
        self.assertEqual(self.fault(card=card), "slits" if card in self.wish else "card")

    def test_prices(self):
        prices = self.found.prices
        for thing in (*NO_SEQUENCES, (), prices[:2], (*prices, ()), (prices[0], prices[1], None),
                      (prices[0][:-1], *prices[1:]), (*prices[:2], (*prices[2], 0)), (*prices[:2], (True, *prices[2][1:])),
                      (("0", *prices[0][1:]), *prices[1:]), ((None, *prices[0][1:]), *prices[1:])):
            self.assertEqual(self.fault(prices=thing), "prices")

    def test_start_move_and_end(self):
        for c, row in enumerate(self.found.prices):
            for k, price in enumerate(row):
                for change in (1, -1):
                    spoilt = (*self.found.prices[:c], (*row[:k], price + change, *row[k + 1:]), *self.found.prices[c + 1:])
                    fault = self.fault(prices=spoilt)
                    if change == 1:
                        self.assertEqual(fault, "start" if c == 0 else "move")
                    elif c == 2:
                        self.assertEqual(fault, "end" if price == self.found.slits else None)
                    else:
                        self.assertIn(fault, ("move", None))

    def test_start_ahead_of_move_and_end(self):
        prices = self.found.prices
        self.assertEqual(self.fault(prices=((1, *prices[0][1:]), (99,) * len(prices[1]), (-1,) * len(prices[2]))), "start")
        self.assertEqual(self.fault(prices=(prices[0], (99,) * len(prices[1]), (-1,) * len(prices[2]))), "move")
        self.assertEqual(self.fault(prices=(prices[0], prices[1], (-1,) * len(prices[2]))), "end")

    def test_a_card_that_is_not_the_best_is_never_let(self):
        for words in product(*[slow_granted(self.wish, c) for c in range(3)]):
            if slits(words) > self.found.slits:
                self.assertEqual(self.fault(card=Card.of_words(*words), slits=slits(words)), "end")


class EqualityTest(unittest.TestCase):
    def test_equality(self):
        card = Card.of_words("ddoo")
        found = Fewest(card, 0, ((0, 0),))
        self.assertEqual(found, Fewest(Card.of_words("ddoo"), 0, ((0, 0),)))
        for other in (Fewest(Card.of_words("dodo"), 0, ((0, 0),)), Fewest(card, 1, ((0, 0),)), Fewest(card, 0, ()), None,
                      card, (card, 0, ((0, 0),))):
            self.assertFalse(found == other)
            self.assertTrue(found != other)
        self.assertIs(found.__eq__(Anything()), False)
        self.assertEqual(vars(Fewest(1, [2], None)), {"card": 1, "slits": [2], "prices": None})
