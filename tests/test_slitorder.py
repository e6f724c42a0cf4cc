import random
import unittest
from itertools import islice, product

from helpers import NO_NUMBERS, Anything, Raises, all_words, common_of, kind_wish, slow_granted, some_wish
from slitstairs.cards import Card
from slitstairs.errors import NoSuch, NotGranted
from slitstairs.fewest import fewest_slits
from slitstairs.prints import Print
from slitstairs.slitorder import cards_by_slits, slit_counts, slit_order_at, slit_order_index
from slitstairs.wishes import Wish


def slits(words):
    return sum(len(one) - len(common_of(one, other)) for one, other in zip(words, words[1:]))


def free_wish(size, width):
    return Wish(Print.plain(size, width), [[None] * size] * width, [[None] * size] * width)


def some_wishes():
    chance = random.Random(191)
    for size, width in ((1, 1), (1, 4), (2, 1), (2, 4), (3, 1), (3, 2), (3, 3), (4, 2)):
        yield free_wish(size, width)
        for wished in (20, 40, 70):
            for inks in (2, 3):
                yield some_wish(chance, size, width, wished, inks, Print, Wish)
                yield kind_wish(chance, size, width, wished, inks, Print, Wish)


def slow_order(wish):
    """The words of all granted cards in the order of slits."""
    return sorted(product(*[slow_granted(wish, c) for c in range(wish.width)]), key=lambda words: (slits(words), words))


class SmallWishesTest(Raises, unittest.TestCase):
    def test_by_hand(self):
        wish = free_wish(2, 2)
        self.assertEqual(slit_counts(wish), ((0, 2), (2, 2)))
        self.assertEqual([card.words for card in cards_by_slits(wish)],
                         [("ddoo", "ddoo"), ("dodo", "dodo"), ("ddoo", "dodo"), ("dodo", "ddoo")])

    def test_against_all_granted_cards(self):
        kinds = []
        for wish in some_wishes():
            order = slow_order(wish)
            cards = [Card.of_words(*words) for words in order]
            self.assertEqual(list(cards_by_slits(wish)), cards)
            edges = [slits(words) for words in order]
            self.assertEqual(slit_counts(wish), tuple((many, edges.count(many)) for many in sorted(set(edges))))
            kinds.append(len(set(edges)))
            for number in list(range(len(cards)))[::max(1, len(cards) // 40)]:
                self.assertEqual(slit_order_at(wish, number), cards[number])
                self.assertEqual(slit_order_index(wish, cards[number]), number)
            for number in (-1, len(cards), 10 ** 20, *NO_NUMBERS):
                self.raises(NoSuch, {"number": number}, slit_order_at, wish, number)
        self.assertGreater(max(kinds), 5)
        self.assertGreater(kinds.count(0), 2)

    def test_the_first_one_has_the_fewest(self):
        for wish in some_wishes():
            if slit_counts(wish):
                first = slit_order_at(wish, 0)
                self.assertEqual(first, fewest_slits(wish).card)
                self.assertEqual(first.all_slit_edges(), slit_counts(wish)[0][0])

    def test_mirrored_and_turned_wishes(self):
        for wish in some_wishes():
            self.assertEqual(slit_counts(wish.mirrored()), slit_counts(wish))
            self.assertEqual(slit_counts(wish.turned()), slit_counts(wish))

    def test_marks_are_disregarded(self):
        wish = free_wish(3, 3)
        for card in list(cards_by_slits(wish))[::9]:
            self.assertEqual(card.marks, ())
            marked = card.with_marks([(0, 1), (1, 4)])
            self.assertEqual(slit_order_index(wish, marked), slit_order_index(wish, card))

    def test_not_granted(self):
        wish = Wish(Print([[1, 2, 3, 4], [0] * 4]), [[1, 2], [None] * 2], [[None] * 2] * 2)
        self.assertEqual(slit_order_index(wish, Card.of_words("ddoo", "dodo")), 1)
        for thing in (*NO_NUMBERS, Card.of_words("dodo", "ddoo"), Card.of_words("ddoo"), Card.of_words("dddooo", "dddooo"),
                      ("ddoo", "ddoo"), Anything()):
            self.raises(NotGranted, {"thing": thing}, slit_order_index, wish, thing)

    def test_wishes_that_grant_nothing(self):
        for c in range(3):
            rows = [[None] * 2 for _ in range(3)]
            rows[c] = [1, None]
            wish = Wish(Print.plain(2, 3), rows, [[None] * 2] * 3)
            self.assertEqual((slit_counts(wish), list(cards_by_slits(wish))), ((), []))
            self.raises(NoSuch, {"number": 0}, slit_order_at, wish, 0)
            card = Card.of_words("ddoo", "ddoo", "ddoo")
            self.raises(NotGranted, {"thing": card}, slit_order_index, wish, card)


class GreatWishesTest(Raises, unittest.TestCase):
    def test_a_free_wish(self):
        wish = free_wish(6, 12)
        counts = slit_counts(wish)
        self.assertEqual(sum(many for _, many in counts), 132 ** 12)
        self.assertEqual([edges for edges, _ in counts], sorted({edges for edges, _ in counts}))
        self.assertEqual(counts[0], (0, 132))
        # As many slit edges as can be stand between columns that have the first and the last step alone in common.
        self.assertEqual(counts[-1][0], 110)
        first = list(islice(cards_by_slits(wish), 133))
        self.assertEqual([card.words for card in first[:132]], [(word,) * 12 for word in all_words(6)])
        self.assertEqual(first[132].all_slit_edges(), counts[1][0])
        self.assertEqual(slit_order_index(wish, first[132]), 132)
        self.raises(NoSuch, {"number": 132 ** 12}, slit_order_at, wish, 132 ** 12)

    def test_numbers_there_and_back(self):
        wish = free_wish(6, 12)
        for number in (132 ** 12 - 1, 10 ** 24 + 7):
            self.assertEqual(slit_order_index(wish, slit_order_at(wish, number)), number)

    def test_some_inks(self):
        wish = kind_wish(random.Random(192), 6, 12, 25, 2, Print, Wish)
        counts = slit_counts(wish)
        many = 1
        for c in range(12):
            many *= len(slow_granted(wish, c))
        self.assertGreater(many, 10 ** 9)
        self.assertEqual(sum(told for _, told in counts), many)
        self.assertEqual(slit_counts(wish.mirrored().turned()), counts)
        cards = list(islice(cards_by_slits(wish), 60))
        self.assertEqual(cards[0], fewest_slits(wish).card)
        self.assertEqual(cards, sorted(cards, key=lambda card: (card.all_slit_edges(), card.words)))
        self.assertEqual([slit_order_index(wish, card) for card in cards[::15]], [0, 15, 30, 45])
        for number in (many // 3, many - 1):
            card = slit_order_at(wish, number)
            self.assertIn(card, wish)
            self.assertEqual(slit_order_index(wish, card), number)

    def test_a_great_wish_that_grants_nothing(self):
        rows = [[None] * 6] * 11
        wish = Wish(Print.plain(6, 12), [*rows, [1] * 6], [[None] * 6] * 12)
        self.assertEqual((slit_counts(wish), list(cards_by_slits(wish))), ((), []))
