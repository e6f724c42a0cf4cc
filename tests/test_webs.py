import random
import unittest
from itertools import islice, product

from helpers import NO_NUMBERS, Anything, Raises, all_words, kind_wish, slow_granted, some_wish
from slitstairs.cards import Card
from slitstairs.columns import Column
from slitstairs.errors import NoColumn, NoSuch, NotGranted, NoWord, UnlikeWish
from slitstairs.prints import Print
from slitstairs.webs import (
    count_granted, count_words, granted_card_at, granted_card_index, granted_cards, granted_words, parting_card,
    sure_letters, word_at, word_index)
from slitstairs.wishes import Wish

EXAMPLE = Wish(Print(((1, 2, 1, 1, 2, 2),)), ((1, 2, 1),), ((1, 2, 2),))


def free_wish(size, width):
    return Wish(Print.plain(size, width), [[None] * size] * width, [[None] * size] * width)


def some_wishes():
    chance = random.Random(73)
    for size, width in ((1, 1), (1, 3), (2, 1), (2, 3), (3, 1), (3, 2), (4, 2), (6, 1)):
        for wished in (0, 20, 40, 70):
            for inks in (1, 2, 2, 3):
                yield some_wish(chance, size, width, wished, inks, Print, Wish)
                yield kind_wish(chance, size, width, wished, inks, Print, Wish)


class WordsTest(Raises, unittest.TestCase):
    def test_the_example(self):
        self.assertEqual(list(granted_words(EXAMPLE, 0)), ["dddooo", "ddodoo"])
        self.assertEqual(sure_letters(EXAMPLE, 0), ("d", "d", None, None, "o", "o"))

    def test_against_all_words(self):
        kinds = []
        for wish in some_wishes():
            for c in range(wish.width):
                words = slow_granted(wish, c)
                kinds.append(len(words))
                self.assertEqual(list(granted_words(wish, c)), words)
                self.assertEqual(count_words(wish, c), len(words))
                for number, word in enumerate(words):
                    self.assertEqual((word_at(wish, c, number), word_index(wish, c, word)), (word, number))
                for word in set(all_words(wish.size)) - set(words):
                    self.raises(NotGranted, {"thing": word}, word_index, wish, c, word)
                for number in (-1, len(words)):
                    self.raises(NoSuch, {"number": number}, word_at, wish, c, number)
                if words:
                    told = [letters.pop() if len(letters) == 1 else None for letters in map(set, zip(*words))]
                    self.assertEqual(sure_letters(wish, c), tuple(told))
                else:
                    self.raises(NoWord, {"column": c}, sure_letters, wish, c)
        self.assertGreater(kinds.count(0), 3)
        self.assertGreater(max(kinds), 100)

    def test_all_words_are_granted(self):
        for size in range(1, 7):
            wish = free_wish(size, 12)
            self.assertEqual(list(granted_words(wish, 11)), all_words(size))
            self.assertEqual(sure_letters(wish, 0), ("d", *[None] * (2 * size - 2), "o"))

    def test_wrong_columns(self):
        wish = free_wish(2, 3)
        calls = (lambda c: list(granted_words(wish, c)), lambda c: count_words(wish, c), lambda c: word_at(wish, c, None),
                 lambda c: word_index(wish, c, None), lambda c: sure_letters(wish, c))
        for call in calls:
            for thing in (*NO_NUMBERS, -1, 3, 10 ** 20):
                self.raises(NoColumn, {"column": thing}, call, thing)

    def test_wrong_numbers_and_words(self):
        for thing in (*NO_NUMBERS, -1, 2, 10 ** 20):
            self.raises(NoSuch, {"number": thing}, word_at, EXAMPLE, 0, thing)
        column = Column("dddooo")
        for thing in (*NO_NUMBERS, column, ["dddooo"], "dddoo", "ddoodo", Anything(), ("dddooo",), 0):
            self.raises(NotGranted, {"thing": thing}, word_index, EXAMPLE, 0, thing)


class CardsTest(Raises, unittest.TestCase):
    def test_against_all_cards(self):
        for wish in some_wishes():
            if wish.size > 4:
                continue
            cards = [Card.of_words(*words) for words in product(all_words(wish.size), repeat=wish.width)]
            granted = [card for card in cards if card in wish]
            self.assertEqual(list(granted_cards(wish)), granted)
            self.assertEqual(count_granted(wish), len(granted))
            for number in (-1, len(granted)):
                self.raises(NoSuch, {"number": number}, granted_card_at, wish, number)
            for number, card in enumerate(granted):
                self.assertEqual(granted_card_at(wish, number), card)
                self.assertEqual(granted_card_index(wish, card), number)
            for card in cards[::7]:
                if card not in granted:
                    self.raises(NotGranted, {"thing": card}, granted_card_index, wish, card)

    def test_great_wishes(self):
        wish = free_wish(6, 12)
        self.assertEqual(count_granted(wish), 132 ** 12)
        first = list(islice(granted_cards(wish), 134))
        self.assertEqual(first[0], Card.of_words(*["ddddddoooooo"] * 12))
        self.assertEqual(first[131], Card.of_words(*["ddddddoooooo"] * 11, "do" * 6))
        self.assertEqual(first[133].words[10:], (all_words(6)[1], all_words(6)[1]))
        self.assertEqual(granted_card_at(wish, 132 ** 12 - 1), Card.of_words(*["do" * 6] * 12))
        for number in (1, 132 ** 11 * 5 + 77, 10 ** 25):
            self.assertEqual(granted_card_index(wish, granted_card_at(wish, number)), number)
        for number in (*NO_NUMBERS, -1, 132 ** 12):
            self.raises(NoSuch, {"number": number}, granted_card_at, wish, number)

    def test_a_great_wish_with_some_inks(self):
        chance = random.Random(74)
        wish = kind_wish(chance, 6, 12, 40, 3, Print, Wish)
        many = 1
        for c in range(12):
            many *= len(slow_granted(wish, c))
        self.assertEqual(count_granted(wish), many)
        self.assertGreater(many, 10 ** 6)
        for number in (0, 1, many // 2, many - 1):
            card = granted_card_at(wish, number)
            self.assertIn(card, wish)
            self.assertEqual(granted_card_index(wish, card), number)
        self.assertEqual([granted_card_index(wish, card) for card in islice(granted_cards(wish), 20)], list(range(20)))

    def test_no_card(self):
        rows = [[None] * 6] * 11
        wish = Wish(Print.plain(6, 12), [*rows, [1] * 6], [*rows, [None] * 6])
        self.assertEqual((list(granted_cards(wish)), count_granted(wish)), ([], 0))
        self.raises(NoSuch, {"number": 0}, granted_card_at, wish, 0)

    def test_marks_and_other_things(self):
        wish = free_wish(2, 2)
        card = Card.of_words("ddoo", "dodo", marks=[(0, 1), (0, 2)])
        self.assertEqual(granted_card_index(wish, card), 1)
        for thing in (*NO_NUMBERS, Card.of_words("ddoo"), Card.of_words("dddooo", "dddooo"), card.columns, Anything()):
            self.raises(NotGranted, {"thing": thing}, granted_card_index, wish, thing)


class PartingCardTest(Raises, unittest.TestCase):
    def test_against_all_cards(self):
        chance = random.Random(77)
        kinds = []
        for size, width in ((1, 2), (2, 1), (2, 3), (3, 1), (3, 2), (3, 3)):
            cards = [Card.of_words(*words) for words in product(all_words(size), repeat=width)]
            for _ in range(40):
                one = kind_wish(chance, size, width, chance.choice((0, 30, 60)), 2, Print, Wish)
                other = some_wish(chance, size, width, chance.choice((0, 5, 10, 30)), 2, Print, Wish)
                told = [card for card in cards if card in one and card not in other]
                found = parting_card(one, other)
                self.assertEqual(found, told[0] if told else None)
                kinds.append(None if found is None else cards.index(found))
                self.assertIsNone(parting_card(one, one))
        self.assertGreater(kinds.count(None), 10)
        self.assertGreater(len(set(kinds)), 10)

    def test_great_wishes(self):
        wish = free_wish(6, 12)
        rows = [[None] * 6 for _ in range(12)]
        rows[3] = [None, None, None, None, None, 1]
        barred = Wish(wish.printed.with_ink(3, 5, 1), rows, [[None] * 6] * 12)
        # In column 3 the last step down must be step 5.
        self.assertEqual(parting_card(wish, barred).words, (*["ddddddoooooo"] * 3, "dddddodooooo", *["ddddddoooooo"] * 8))
        self.assertIsNone(parting_card(barred, wish))
        self.assertIsNone(parting_card(wish, wish))

    def test_empty_wishes(self):
        none = Wish(Print.plain(2, 2), [[1, 1], [None, None]], [[None, None]] * 2)
        self.assertIsNone(parting_card(none, free_wish(2, 2)))
        self.assertEqual(parting_card(free_wish(2, 2), none), Card.of_words("ddoo", "ddoo"))
        self.assertIsNone(parting_card(none, none))

    def test_prints_may_differ(self):
        one = Wish(Print([[1, 2, 3, 4]]), [[1, 2]], [[None, None]])
        other = Wish(Print([[5, 6, 7, 8]]), [[5, 6]], [[None, None]])
        self.assertIsNone(parting_card(one, other))

    def test_unlike(self):
        self.raises(UnlikeWish, {"what": "size"}, parting_card, free_wish(2, 3), free_wish(3, 2))
        self.raises(UnlikeWish, {"what": "size"}, parting_card, free_wish(2, 3), free_wish(1, 3))
        self.raises(UnlikeWish, {"what": "width"}, parting_card, free_wish(2, 3), free_wish(2, 2))
