import random
import unittest

from helpers import NO_NUMBERS, Anything, Raises, kind_wish, slow_granted, slow_opens, some_wish
from slitstairs.cards import Card
from slitstairs.errors import BadMost, NoWord, TooManySway
from slitstairs.motions import OnlyOpens, Still, Sways, motion_fault, motion_of, only_opens
from slitstairs.openings import FewestOpening, fewest_opening, opening_fault
from slitstairs.prints import Print
from slitstairs.wishes import Wish
from test_slitorder import free_wish, slow_order


def some_wishes():
    chance = random.Random(201)
    for size, width in ((1, 1), (1, 3), (2, 2), (3, 1), (3, 2), (4, 1), (4, 2)):
        for wished in (0, 30, 50, 80):
            for inks in (2, 3, 4):
                yield kind_wish(chance, size, width, wished, inks, Print, Wish)
                yield some_wish(chance, size, width, wished, inks, Print, Wish)


# In column 0 dodododo alone is granted, in the two others every word.
TRIPLE = Wish(Print([[1, 2, 3, 4, 5, 6, 7, 8], [0] * 8, [0] * 8]), [[1, 3, 5, 7], [None] * 4, [None] * 4],
              [[2, 4, 6, 8], [None] * 4, [None] * 4])


class FewestOpeningTest(Raises, unittest.TestCase):
    def test_against_all_granted_cards(self):
        kinds = []
        for wish in some_wishes():
            if not all(slow_granted(wish, c) for c in range(wish.width)):
                continue
            order = slow_order(wish)
            ahead = []
            while len(ahead) < len(order) and not slow_opens(order[len(ahead)]):
                ahead.append(order[len(ahead)])
            found = fewest_opening(wish)
            self.assertEqual([card.words for card, _ in found.ahead], ahead)
            for card, motion in found.ahead:
                self.assertIs(motion.__class__, Sways)
                self.assertIsNone(motion_fault(card, motion))
                self.assertEqual(card.marks, ())
            if len(ahead) < len(order):
                self.assertEqual((found.card.words, found.card.marks), (order[len(ahead)], ()))
                self.assertIs(found.paper.__class__, OnlyOpens)
                self.assertIsNone(motion_fault(found.card, found.paper))
            else:
                self.assertEqual((found.card, found.paper), (None, None))
            self.assertEqual({part.__class__ for part in (found.ahead, *found.ahead)} - {tuple}, set())
            self.assertIsNone(opening_fault(wish, found))
            kinds.append((found.card is None, len(ahead) > 0))
        self.assertEqual(len(set(kinds)), 3)

    def test_a_wish_of_which_no_card_only_opens(self):
        wish = Wish(Print([[1, 2, 3, 4, 5, 6]]), [[1, 3, 5]], [[None] * 3])
        self.assertEqual([card.words for card, _ in fewest_opening(wish).ahead], [("dododo",)])
        self.assertIsNone(fewest_opening(wish).card)

    def test_the_first_card_that_only_opens(self):
        found = fewest_opening(TRIPLE)
        self.assertEqual(found.ahead[0][0].words, ("dodododo", "dodododo", "dodododo"))
        self.assertTrue(only_opens(found.card))
        self.assertGreater(len(found.ahead), 2)

    def test_free_wishes(self):
        found = fewest_opening(free_wish(6, 12), most=0)
        self.assertEqual((found.card.words, found.ahead), (("d" * 6 + "o" * 6,) * 12, ()))
        self.assertIsNone(opening_fault(free_wish(6, 12), found))

    def test_most(self):
        many = len(fewest_opening(TRIPLE).ahead)
        for most in (many, many + 1, 200):
            self.assertEqual(fewest_opening(TRIPLE, most=most).card, fewest_opening(TRIPLE).card)
        for most in (0, 1, many - 1):
            self.raises(TooManySway, {"most": most}, fewest_opening, TRIPLE, most=most)
        # Where no card only opens, all that are ahead count, and no more.
        wish = Wish(Print([[1, 2, 3, 4, 5, 6]]), [[1, 3, 5]], [[None] * 3])
        self.assertEqual(len(fewest_opening(wish, most=1).ahead), 1)
        self.raises(TooManySway, {"most": 0}, fewest_opening, wish, most=0)
        with self.assertRaises(TypeError):
            fewest_opening(wish, 5)

    def test_a_great_wish_with_too_many(self):
        rows = [[1, 3, 5, 7, 9, 11]] + [[None] * 6] * 11
        printed = Print([list(range(1, 13))] + [[0] * 12] * 11)
        wish = Wish(printed, rows, [[None] * 6] * 12)
        self.raises(TooManySway, {"most": 3}, fewest_opening, wish, most=3)

    def test_the_order_of_errors(self):
        none = Wish(Print.plain(3, 2), [[None] * 3, [1] * 3], [[None] * 3] * 2)
        for thing in (*NO_NUMBERS, -1, 201, 10 ** 20, Anything()):
            self.raises(BadMost, {"most": thing}, fewest_opening, none, most=thing)
            self.raises(BadMost, {"most": thing}, fewest_opening, TRIPLE, most=thing)
        for most in (0, 200):
            self.raises(NoWord, {"column": 1}, fewest_opening, none, most=most)
        both = Wish(Print.plain(3, 2), [[1] * 3, [1] * 3], [[None] * 3] * 2)
        self.raises(NoWord, {"column": 0}, fewest_opening, both)
        # Ahead of the cards that sway stands the column without a word.
        sways = Wish(Print([[1, 2, 3, 4, 5, 6], [0] * 6]), [[1, 3, 5], [1] * 3], [[None] * 3] * 2)
        self.raises(NoWord, {"column": 1}, fewest_opening, sways, most=0)


class OpeningFaultTest(unittest.TestCase):
    def setUp(self):
        self.found = fewest_opening(TRIPLE)

    def fault(self, wish=TRIPLE, **changes):
        return opening_fault(wish, FewestOpening(**{**vars(self.found), **changes}))

    def test_right_papers(self):
        self.assertIsNone(self.fault())
        ahead = [[card, motion] for card, motion in self.found.ahead]
        self.assertIsNone(self.fault(ahead=ahead))
        # Any motion that is right will do.
        card, motion = self.found.ahead[0]
        others = [Sways(letter, rates) for letter, rates in (("o", (0, 1, 0, 1, 0, -2, 0, 0)), ("d", (0, 0, 1, 0, -1, 0, 0, 0)))]
        for other in others:
            self.assertIsNone(motion_fault(card, other))
            self.assertIsNone(self.fault(ahead=((card, other), *self.found.ahead[1:])))

    def test_ahead(self):
        ahead = self.found.ahead
        swapped = (ahead[1], ahead[0], *ahead[2:])
        marked = ((ahead[0][0].with_marks([(0, 1)]), ahead[0][1]), *ahead[1:])
        for thing in (swapped, marked, ahead[1:], (ahead[0], *ahead), (*ahead[:-1], (self.found.card, ahead[-1][1])),
                      ((Card.of_words("dodododo"), ahead[0][1]), *ahead[1:])):
            self.assertEqual(self.fault(ahead=thing, card=None, paper=5), "ahead")
        for thing in (*NO_NUMBERS, Anything()):
            self.assertEqual(self.fault(ahead=(*ahead[:-1], (thing, None))), "ahead")
            # All cards are asked ahead of the motions.
            self.assertEqual(self.fault(ahead=((ahead[0][0], None), *ahead[1:-1], (thing, None))), "ahead")

    def test_more_ahead_than_there_are_cards(self):
        wish = Wish(Print([[1, 2, 3, 4, 5, 6]]), [[1, 3, 5]], [[None] * 3])
        found = fewest_opening(wish)
        self.assertIsNone(opening_fault(wish, found))
        self.assertEqual(opening_fault(wish, FewestOpening(None, None, found.ahead * 2)), "ahead")

    def test_sways(self):
        ahead = self.found.ahead
        for k, (card, motion) in enumerate(ahead):
            wrong = [Sways(motion.letter, [0] * len(motion.rates)), Sways("x", motion.rates), Still(()), OnlyOpens(()), None,
                     Sways(motion.letter, [-rate for rate in motion.rates]), (motion.letter, motion.rates), Anything(),
                     Sways(motion.letter, motion.rates[1:]), motion_of(self.found.card)]
            for thing in wrong:
                spoilt = (*ahead[:k], (card, thing), *ahead[k + 1:])
                self.assertEqual(self.fault(ahead=spoilt, card=None, paper=5), "sways")

    def test_card(self):
        card = self.found.card
        self.assertIsNone(self.fault(card=Card.of_words(*card.words)))
        for thing in (*NO_NUMBERS, card.with_marks([(0, 1)]), self.found.ahead[0][0], card.words, Anything()):
            self.assertEqual(self.fault(card=thing, paper=None), "card")
        # One card less ahead: then the one left out is the next one.
        self.assertEqual(self.fault(ahead=self.found.ahead[:-1]), "card")
        self.assertEqual(self.fault(ahead=self.found.ahead[:-1], card=self.found.ahead[-1][0]), "opens")

    def test_a_later_card_that_only_opens(self):
        order = [Card.of_words(*words) for words in slow_order(TRIPLE)]
        later = [card for card in order[order.index(self.found.card) + 1:] if only_opens(card)][0]
        self.assertEqual(self.fault(card=later, paper=motion_of(later)), "card")

    def test_opens(self):
        paper = self.found.paper
        ratios = paper.combinations
        wrong = [None, OnlyOpens(ratios[1:]), OnlyOpens(ratios[::-1]), OnlyOpens(()), self.found.ahead[0][1], Still(ratios), ratios,
                 Sways("o", (0,) * len(ratios)), Anything(), True]
        for thing in wrong:
            self.assertEqual(self.fault(paper=thing), "opens")

    def test_no_card(self):
        wish = Wish(Print([[1, 2, 3, 4, 5, 6]]), [[1, 3, 5]], [[None] * 3])
        found = fewest_opening(wish)
        self.assertIsNone(opening_fault(wish, found))
        for thing in (*[thing for thing in NO_NUMBERS if thing is not None], found.ahead[0][0], Anything()):
            self.assertEqual(opening_fault(wish, FewestOpening(thing, None, found.ahead)), "card")
            self.assertEqual(opening_fault(wish, FewestOpening(None, thing, found.ahead)), "opens")
        self.assertEqual(opening_fault(wish, FewestOpening(None, None, ())), "card")

    def test_a_wish_that_grants_nothing(self):
        none = Wish(Print.plain(3, 2), [[None] * 3, [1] * 3], [[None] * 3] * 2)
        self.assertIsNone(opening_fault(none, FewestOpening(None, None, ())))
        self.assertEqual(opening_fault(none, self.found), "ahead")
        self.assertEqual(opening_fault(none, FewestOpening(self.found.card, self.found.paper, ())), "card")

    def test_arguments_are_kept_as_they_are(self):
        self.assertEqual(vars(FewestOpening(1, [2], None)), {"card": 1, "paper": [2], "ahead": None})
