import random
import unittest
from itertools import islice, product

from helpers import NO_NUMBERS, Raises, all_words
from slitstairs.allcards import all_cards, card_at, card_index
from slitstairs.cards import Card
from slitstairs.errors import BadView, NoSuch
from slitstairs.lookalikes import Lookalikes
from slitstairs.nests import is_behind
from slitstairs.prints import Print
from slitstairs.views import slope_view

BETWEEN = [(p, q) for p, q in product(range(1, 10), repeat=2) if p != q]


def drawn_print(chance, size, width):
    inks = chance.choice((1, 2, 2, 3, 20))
    return Print([[chance.randrange(inks) for _ in range(2 * size)] for _ in range(width)])


def some_collections():
    chance = random.Random(173)
    for size, width, many in ((1, 1, 2), (1, 4, 2), (2, 1, 6), (2, 3, 12), (3, 1, 12), (3, 2, 12), (4, 1, 12), (4, 2, 4)):
        cards = list(all_cards(size, width))
        for _ in range(many):
            yield chance.choice(cards), drawn_print(chance, size, width), cards


class LookalikesTest(Raises, unittest.TestCase):
    def test_against_all_cards(self):
        chance = random.Random(174)
        kinds = []
        for card, printed, cards in some_collections():
            slope = chance.choice(BETWEEN)
            view = slope_view(card, printed, *slope)
            told = [other for other in cards if slope_view(other, printed, *slope) == view]
            found = Lookalikes(card, printed)
            self.assertEqual(found.alike_many, len(told))
            self.assertEqual(list(found.each_lookalike()), told)
            for number, other in enumerate(told):
                self.assertEqual((found.lookalike_at(number), found.number_of(other)), (other, number))
            for other in cards:
                if other not in told:
                    self.assertIsNone(found.number_of(other))
            for number in (-1, len(told), 10 ** 20, *NO_NUMBERS):
                self.raises(NoSuch, {"number": number}, found.lookalike_at, number)
            for other in told:
                self.assertTrue(is_behind(told[0], other) and is_behind(other, told[-1]))
            kinds.append(len(told))
        self.assertGreater(len(set(kinds)), 8)

    def test_attributes_and_marks(self):
        card = Card.of_words("ddoo", "dodo", marks=[(0, 1)])
        printed = Print([[1, 1, 2, 2], [1, 2, 2, 2]])
        found = Lookalikes(card, printed)
        self.assertIs(found.card, card)
        self.assertIs(found.printed, printed)
        self.assertEqual(found.card.marks, ((0, 1),))
        self.assertEqual([other.words for other in found.each_lookalike()], [("ddoo", "ddoo"), ("ddoo", "dodo")])
        self.assertEqual([other.marks for other in found.each_lookalike()], [(), ()])
        self.assertEqual(found.lookalike_at(1).marks, ())
        self.assertEqual((found.number_of(card), found.number_of(card.unmarked())), (1, 1))
        self.assertEqual(found.number_of(Card.of_words("ddoo", "ddoo", marks=[(0, 2)])), 0)
        self.assertIsNone(found.number_of(Card.of_words("dodo", "ddoo", marks=[(0, 2)])))

    def test_a_great_collection(self):
        card = card_at(6, 12, 10 ** 24)
        found = Lookalikes(card, Print.plain(6, 12, 3))
        self.assertEqual(found.alike_many, 132 ** 12)
        self.assertEqual(found.number_of(card), 10 ** 24)
        for number in (0, 1, 132 ** 11 * 7 + 5, 132 ** 12 - 1):
            self.assertEqual(card_index(found.lookalike_at(number)), number)
        first = list(islice(found.each_lookalike(), 134))
        self.assertEqual([card_index(other) for other in first], list(range(134)))
        self.assertEqual((first[0].words, found.lookalike_at(132 ** 12 - 1).words), (("d" * 6 + "o" * 6,) * 12, ("do" * 6,) * 12))
        for number in (-1, 132 ** 12):
            self.raises(NoSuch, {"number": number}, found.lookalike_at, number)

    def test_the_first_and_the_last_one(self):
        chance = random.Random(175)
        for _ in range(4):
            card = card_at(6, 12, chance.randrange(132 ** 12))
            printed = Print([[chance.randrange(4) // 3 for _ in range(12)] for _ in range(12)])
            found = Lookalikes(card, printed)
            first, last = found.lookalike_at(0), found.lookalike_at(found.alike_many - 1)
            for _ in range(10):
                number = chance.randrange(found.alike_many)
                other = found.lookalike_at(number)
                self.assertEqual(found.number_of(other), number)
                self.assertTrue(is_behind(first, other) and is_behind(other, last))
                self.assertEqual(slope_view(other, printed, 3, 2), slope_view(card, printed, 3, 2))

    def test_a_print_of_unlike_inks(self):
        for word in all_words(4):
            card = Card.of_words(word)
            found = Lookalikes(card, Print([range_row(8)]))
            self.assertEqual((found.alike_many, found.lookalike_at(0), found.number_of(card)), (1, card, 0))

    def test_misfits(self):
        card = Card.of_words("ddoo", "dodo")
        for printed in (Print.plain(2, 1), Print.plain(2, 3), Print.plain(3, 2), Print.plain(1, 2)):
            self.raises(BadView, {"what": "print"}, Lookalikes, card, printed)
        found = Lookalikes(card, Print.plain(2, 2))
        for other in (Card.of_words("ddoo"), Card.of_words("do", "do"), Card.of_words("dddooo", "dddooo"),
                      Card.of_words("ddoo", "ddoo", "ddoo")):
            self.raises(BadView, {"what": "cards"}, found.number_of, other)


def range_row(many):
    return list(range(many))
