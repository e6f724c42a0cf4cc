import unittest
from itertools import islice, product

from helpers import NO_NUMBERS, Raises, all_words
from slitstairs.allcards import all_cards, card_at, card_index, how_many_cards, plain_card
from slitstairs.cards import Card
from slitstairs.errors import BadSize, BadWidth, NoSuch

MANY = 132 ** 12


class AllCardsTest(Raises, unittest.TestCase):
    def test_all_in_order(self):
        for size, width in ((1, 1), (1, 12), (2, 1), (2, 5), (3, 3), (4, 2), (6, 1)):
            words = list(product(all_words(size), repeat=width))
            self.assertEqual([card.words for card in all_cards(size, width)], words)
            self.assertEqual(how_many_cards(size, width), len(words))

    def test_cards_without_marks(self):
        self.assertEqual([card.marks for card in all_cards(2, 2)], [()] * 4)

    def test_numbers(self):
        for size, width in ((1, 1), (1, 12), (2, 4), (3, 3), (6, 1)):
            for number, card in enumerate(all_cards(size, width)):
                self.assertEqual(card_at(size, width, number), card)
                self.assertEqual(card_index(card), number)

    def test_marks_are_disregarded(self):
        card = Card.of_words("dodo", "ddoo", "dodo", marks=[(0, 1), (1, 2)])
        self.assertEqual((card_index(card), card.marks), (5, ((0, 1), (1, 2))))

    def test_greatest_size_and_width(self):
        self.assertEqual(how_many_cards(6, 12), MANY)
        last = card_at(6, 12, MANY - 1)
        self.assertEqual(last.words, ("do" * 6,) * 12)
        self.assertEqual(card_index(last), MANY - 1)
        for number in (0, 1, 131, 132, MANY // 2, MANY // 7, MANY - 2):
            self.assertEqual(card_index(card_at(6, 12, number)), number)
        self.assertEqual(card_at(6, 12, 0), plain_card(6, 12))

    def test_the_first_of_very_many(self):
        found = [card.words for card in islice(all_cards(6, 12), 134)]
        words = all_words(6)
        self.assertEqual(found, [(words[0],) * 11 + (word,) for word in words]
                         + [(words[0],) * 10 + (words[1], word) for word in words[:2]])

    def test_plain_card(self):
        self.assertEqual(plain_card(3, 2), Card.of_words("dddooo", "dddooo"))
        self.assertEqual(plain_card(1, 1), Card.of_words("do"))
        self.assertEqual(plain_card(6, 12).words, ("ddddddoooooo",) * 12)

    def calls(self):
        return (how_many_cards, plain_card,
                lambda size, width: next(all_cards(size, width)),
                lambda size, width: card_at(size, width, 0),
                lambda size, width: card_at(size, width, None))

    def test_no_sizes(self):
        for size in (*NO_NUMBERS, 0, 7, -1):
            for call in self.calls():
                with self.subTest(size):
                    self.raises(BadSize, {"size": size}, call, size, 2)
                    self.raises(BadSize, {"size": size}, call, size, None)

    def test_no_widths(self):
        for width in (*NO_NUMBERS, 0, 13, -1):
            for call in self.calls():
                with self.subTest(width):
                    self.raises(BadWidth, {"width": width}, call, 2, width)

    def test_no_numbers(self):
        for size, width, many in ((1, 12, 1), (2, 3, 8), (6, 12, MANY)):
            for number in (*NO_NUMBERS, -1, many):
                with self.subTest(number):
                    self.raises(NoSuch, {"number": number}, card_at, size, width, number)
