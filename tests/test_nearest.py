import random
import unittest
from itertools import combinations, product

from helpers import (
    NO_NUMBERS, NO_SEQUENCES, NO_WORDS, Anything, Raises, all_words, kind_wish, slow_granted, slow_misses, some_wish)
from slitstairs.allcards import all_cards
from slitstairs.cards import Card
from slitstairs.errors import NoColumn
from slitstairs.nearest import Nearest, least_waivers, nearest_card, nearest_fault, nearest_word
from slitstairs.prints import Print
from slitstairs.wishes import Wish, missed_places

EXAMPLE = Wish(Print(((1, 2, 1, 1, 2, 2),)), ((1, 2, 1),), ((1, 2, 2),))


def some_wishes():
    chance = random.Random(181)
    for size, width in ((1, 1), (1, 3), (2, 1), (2, 3), (3, 1), (3, 2), (4, 2), (5, 1), (6, 1)):
        for wished in (0, 20, 50, 80, 100):
            for inks in (1, 2, 2, 3, 5):
                yield some_wish(chance, size, width, wished, inks, Print, Wish)
    yield kind_wish(chance, 4, 3, 60, 3, Print, Wish)


def slow_prices(wish, c):
    """The fewest misses ahead of each web place, over the beginnings of all words."""
    found = {}
    for word in all_words(wish.size):
        for t in range(len(word) + 1):
            place = (word[:t].count("d"), word[:t].count("o"))
            misses = len(slow_misses(wish, c, word[:t]))
            found[place] = min(misses, found.get(place, misses))
    return tuple(tuple(found[place] for place in sorted(found) if sum(place) == boundary)
                 for boundary in range(2 * wish.size + 1))


class NearestWordTest(Raises, unittest.TestCase):
    def test_by_hand(self):
        # A granted word misses nowhere.
        self.assertEqual(nearest_word(EXAMPLE, 0), Nearest("dddooo", 0, ((0,), (0,), (1, 0), (0, 0), (1, 0), (0,), (0,))))
        wish = Wish(Print([[1, 2, 3, 4]]), [[9, 9]], [[3, 4]])
        found = nearest_word(wish, 0)
        self.assertEqual((found.word, found.misses), ("ddoo", 2))
        self.assertEqual(found.prices, ((0,), (1,), (2, 2), (2,), (2,)))
        self.assertEqual(nearest_word(Wish(Print([[1, 2, 3, 4]]), [[9, 9]], [[2, 4]]), 0).word, "dodo")

    def test_against_all_words(self):
        kinds = []
        for wish in some_wishes():
            for c in range(wish.width):
                misses = [(len(slow_misses(wish, c, word)), word) for word in all_words(wish.size)]
                found = nearest_word(wish, c)
                self.assertEqual((found.misses, found.word), min(misses))
                self.assertEqual(found.prices, slow_prices(wish, c))
                self.assertEqual({part.__class__ for part in (found.prices, *found.prices)}, {tuple})
                self.assertIsNone(nearest_fault(wish, c, found))
                self.assertEqual(found.misses == 0, bool(slow_granted(wish, c)))
                kinds.append(found.misses)
        self.assertGreater(len(set(kinds)), 4)

    def test_nearest_card(self):
        for wish in some_wishes():
            card = nearest_card(wish)
            self.assertEqual((card.words, card.marks), (tuple(nearest_word(wish, c).word for c in range(wish.width)), ()))
            if wish.size < 4:
                least = min(len(missed_places(wish, other)) for other in all_cards(wish.size, wish.width))
                self.assertEqual(len(missed_places(wish, card)), least)

    def test_a_great_wish(self):
        wish = some_wish(random.Random(182), 6, 12, 100, 3, Print, Wish)
        self.assertEqual([nearest_word(wish, c).misses for c in range(12)],
                         [min(len(slow_misses(wish, c, word)) for word in all_words(6)) for c in range(12)])
        self.assertEqual(nearest_card(wish).width, 12)

    def test_wrong_columns(self):
        wish = some_wish(random.Random(183), 2, 3, 50, 2, Print, Wish)
        for thing in (*NO_NUMBERS, -1, 3, 10 ** 20):
            self.raises(NoColumn, {"column": thing}, nearest_word, wish, thing)
            self.raises(NoColumn, {"column": thing}, nearest_fault, wish, thing, None)
            self.raises(NoColumn, {"column": thing}, least_waivers, wish, thing)


class NearestFaultTest(unittest.TestCase):
    # The word dododo misses twice, and so do two more words.
    WISH = Wish(Print([[1, 2, 3, 4, 5, 6]]), [[1, 9, 5]], [[2, 4, 9]])

    def setUp(self):
        self.found = nearest_word(self.WISH, 0)

    def fault(self, **changes):
        return nearest_fault(self.WISH, 0, Nearest(**{**vars(self.found), **changes}))

    def test_right_papers(self):
        self.assertIsNone(self.fault())
        self.assertEqual(self.found.misses, 2)
        prices = [list(row) for row in self.found.prices]
        self.assertIsNone(self.fault(prices=prices))
        # A lower price at a place from which only dear ways lead on.
        lower = 0
        for boundary, row in enumerate(prices):
            for k in range(len(row)):
                row[k] -= 1
                fault = self.fault(prices=prices)
                self.assertIn(fault, (None, "move", "end"))
                lower += fault is None
                row[k] += 1
        self.assertGreater(lower, 0)

    def test_other_words_that_miss_as_little(self):
        words = [word for word in all_words(3) if len(slow_misses(self.WISH, 0, word)) == 2]
        self.assertEqual(words[0], self.found.word)
        for word in all_words(3):
            misses = len(slow_misses(self.WISH, 0, word))
            self.assertEqual(self.fault(word=word, misses=misses), None if word in words else "end")

    def test_word(self):
        for thing in (*NO_WORDS, "ddoo", "ddddoooo", "dddoooX", "oddoddoo", ["dddooo"], Anything()):
            self.assertEqual(self.fault(word=thing, misses=None, prices=None), "word")

    def test_misses(self):
        for thing in (*NO_NUMBERS, 0, 3, -1, 10 ** 20, Anything()):
            self.assertEqual(self.fault(misses=thing, prices=None), "misses")
        wish = Wish(Print.plain(2, 1), [[1, None]], [[None, None]])
        found = nearest_word(wish, 0)
        self.assertEqual(found.misses, 1)
        self.assertEqual(nearest_fault(wish, 0, Nearest(found.word, True, found.prices)), "misses")

    def test_prices(self):
        prices = self.found.prices
        for thing in (*NO_SEQUENCES, (), prices[:6], (*prices, ()), (*prices[:6], None), (*prices[:6], ()), (*prices[:6], (2, 2)),
                      (*prices[:3], prices[3][:1], *prices[4:]), ((), *prices[1:]), "0123456"):
            self.assertEqual(self.fault(prices=thing), "prices")
        for boundary, row in enumerate(prices):
            for k in range(len(row)):
                for thing in (*NO_NUMBERS, Anything()):
                    spoilt = (*prices[:boundary], (*row[:k], thing, *row[k + 1:]), *prices[boundary + 1:])
                    self.assertEqual(self.fault(prices=spoilt), "prices")

    def test_start_move_and_end(self):
        prices = self.found.prices
        for boundary, row in enumerate(prices):
            for k, price in enumerate(row):
                spoilt = (*prices[:boundary], (*row[:k], price + 1, *row[k + 1:]), *prices[boundary + 1:])
                self.assertEqual(self.fault(prices=spoilt), "start" if boundary == 0 else "move")
        low = (*prices[:6], (1,))
        self.assertEqual(self.fault(prices=low), "end")
        self.assertEqual(self.fault(prices=((1,), *low[1:])), "start")
        self.assertEqual(self.fault(prices=((-1,), *low[1:])), "move")
        self.assertEqual(self.fault(prices=((0,), (5,), *low[2:])), "move")

    def test_a_word_that_misses_more_is_never_let(self):
        chance = random.Random(184)
        for wish in some_wishes():
            if wish.size < 5:
                for c in range(wish.width):
                    found = nearest_word(wish, c)
                    word = chance.choice(all_words(wish.size))
                    misses = len(slow_misses(wish, c, word))
                    self.assertEqual(nearest_fault(wish, c, Nearest(word, misses, found.prices)),
                                     "end" if misses > found.misses else None)


class LeastWaiversTest(unittest.TestCase):
    def test_by_hand(self):
        self.assertEqual(least_waivers(EXAMPLE, 0), ((),))
        wish = Wish(Print([[1, 2, 3, 4]]), [[9, 9]], [[3, 4]])
        self.assertEqual(least_waivers(wish, 0), ((("front", 0, 0), ("front", 0, 1)),))
        wish = Wish(Print([[1, 2, 3, 4]]), [[1, 3]], [[3, 4]])
        self.assertEqual(least_waivers(wish, 0), ((("front", 0, 1),), (("top", 0, 0),)))

    def test_against_all_lots(self):
        chance = random.Random(185)
        several = 0
        wishes = [wish for wish in some_wishes() if wish.size < 4]
        for size, width in ((2, 2), (3, 1), (3, 2)):
            wishes += [some_wish(chance, size, width, chance.choice((70, 100)), chance.choice((2, 3)), Print, Wish)
                       for _ in range(25)]
        for wish in wishes:
            for c in range(wish.width):
                places = [(view, c, entry) for view in ("front", "top") for entry in range(wish.size)]
                lots = [lot for many in range(len(places) + 1) for lot in combinations(places, many)
                        if slow_granted(wish.loosened(*lot), c)]
                least = [lot for lot in lots if not any(set(other) < set(lot) for other in lots)]
                found = least_waivers(wish, c)
                self.assertEqual(found, tuple(least))
                self.assertEqual({part.__class__ for part in (found, *found)}, {tuple})
                several += len(found) > 1
        self.assertGreater(several, 20)

    def test_the_first_lot_and_the_nearest_word(self):
        for wish in some_wishes():
            for c in range(wish.width):
                found = least_waivers(wish, c)
                self.assertEqual(len(found[0]), nearest_word(wish, c).misses)
                self.assertEqual(len(set(found)), len(found))
                self.assertEqual(list(found), sorted(found, key=lambda lot: (len(lot), lot)))
                for lot in found:
                    self.assertTrue(slow_granted(wish.loosened(*lot), c))
                    for place in lot:
                        self.assertFalse(slow_granted(wish.loosened(*[other for other in lot if other != place]), c))

    def test_other_columns_mean_nothing(self):
        rows = [[None, None], [9, None], [8, 8]]
        wish = Wish(Print.plain(2, 3), rows, [[None, None]] * 3)
        self.assertEqual([least_waivers(wish, c) for c in range(3)],
                         [((),), ((("front", 1, 0),),), ((("front", 2, 0), ("front", 2, 1)),)])


class EqualityTest(unittest.TestCase):
    def test_equality(self):
        found = Nearest("ddoo", 1, ((0,),))
        self.assertEqual(found, Nearest("ddoo", 1, ((0,),)))
        for other in (Nearest("dodo", 1, ((0,),)), Nearest("ddoo", 2, ((0,),)), Nearest("ddoo", 1, ((1,),)), None,
                      ("ddoo", 1, ((0,),)), Card.of_words("ddoo")):
            self.assertFalse(found == other)
            self.assertTrue(found != other)
        self.assertIs(found.__eq__(Anything()), False)
        self.assertEqual(vars(Nearest(1, [2], None)), {"word": 1, "misses": [2], "prices": None})


class WebPlacesTest(unittest.TestCase):
    def test_as_many_prices_as_web_places(self):
        for size in range(1, 7):
            places = [(i, j) for i, j in product(range(size + 1), repeat=2) if j <= i]
            found = nearest_word(Wish(Print.plain(size, 1), [[None] * size], [[None] * size]), 0)
            self.assertEqual([len(row) for row in found.prices],
                             [len([place for place in places if sum(place) == boundary]) for boundary in range(2 * size + 1)])
