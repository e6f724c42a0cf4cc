import random
import unittest
from itertools import product

from helpers import NO_NUMBERS, NO_SEQUENCES, Anything, Raises, all_words, slow_granted, slow_misses, some_wish
from slitstairs.cards import Card
from slitstairs.columns import Column
from slitstairs.errors import BadWish, NoWishPlace, UnlikeWish, WishesClash
from slitstairs.prints import Print
from slitstairs.wishes import Wish, missed_places

INKS = ((1, 2, 1, 1, 2, 2), (3, 3, 4, 4, 5, 5))
FRONT = ((1, 2, 1), (None, 3, 4))
TOP = ((1, 2, 2), (4, None, 5))
WISH = Wish(Print(INKS), FRONT, TOP)
NONE = (None,) * 3


def some_wishes():
    chance = random.Random(71)
    for size, width in ((1, 1), (2, 1), (2, 3), (3, 1), (3, 2), (4, 2)):
        for wished in (0, 30, 60, 100):
            for inks in (1, 2, 2, 3):
                yield some_wish(chance, size, width, wished, inks, Print, Wish)


def small_cards(size, width):
    words = all_words(size)
    for row in product(words, repeat=width) if len(words) ** width < 300 else [words[k:k + width] for k in range(12)]:
        yield Card.of_words(*row)


class WishTest(unittest.TestCase):
    def test_attributes(self):
        wish = Wish(Print(INKS), [list(row) for row in FRONT], [list(row) for row in TOP])
        self.assertEqual(vars(wish), {"printed": Print(INKS), "front": FRONT, "top": TOP, "size": 3, "width": 2})
        self.assertEqual({part.__class__ for part in (wish.front, *wish.front, wish.top, *wish.top)}, {tuple})

    def test_lists_are_neither_kept_nor_changed(self):
        front, top = [[1, None]], [[None, 10 ** 30]]
        wish = Wish(Print([[1, 2, 3, 4]]), front, top)
        self.assertEqual((front, top), ([[1, None]], [[None, 10 ** 30]]))
        front[0][0] = 5
        top.append([1, 2])
        self.assertEqual((wish.front, wish.top), (((1, None),), ((None, 10 ** 30),)))

    def test_equality(self):
        self.assertEqual(WISH, Wish(Print(INKS), [list(row) for row in FRONT], TOP))
        others = (Wish(Print(INKS[::-1]), FRONT, TOP), Wish(Print(INKS), FRONT[::-1], TOP), Wish(Print(INKS), FRONT, FRONT),
                  Wish(Print(INKS[:1]), FRONT[:1], TOP[:1]), None, FRONT, Print(INKS))
        for other in others:
            self.assertFalse(WISH == other)
            self.assertTrue(WISH != other)
        self.assertIs(WISH.__eq__(Anything()), False)


class BadWishTest(Raises, unittest.TestCase):
    def refused(self, what, *args):
        self.raises(BadWish, {"what": what}, Wish, *args)

    def test_print(self):
        for thing in (*NO_SEQUENCES, INKS, Anything()):
            self.refused("print", thing, None, None)

    def test_views(self):
        printed = Print(INKS)
        for thing in NO_SEQUENCES:
            self.refused("front", printed, thing, None)
            self.refused("top", printed, FRONT, thing)
            self.refused("front", printed, [FRONT[0], thing], None)
            self.refused("top", printed, (), [thing, ()])
        for thing in (True, False, "1", 1.0, (1,), [None], {}, Anything()):
            self.refused("front", printed, [NONE, (1, None, thing)], None)
            self.refused("top", printed, [()], [[thing]])

    def test_width(self):
        printed = Print(INKS)
        for rows in ((), (NONE,), [NONE] * 3, [(), (), ()], [(1,)]):
            self.refused("width", printed, rows, [NONE, NONE])
            self.refused("width", printed, [NONE, NONE], rows)
            self.refused("width", printed, [(), ()], rows)

    def test_size(self):
        printed = Print(INKS)
        for row in ((), (1,), (1, None), (None,) * 4, [7] * 6):
            self.refused("size", printed, [NONE, row], [NONE, NONE])
            self.refused("size", printed, [row, NONE], [NONE, NONE])
            self.refused("size", printed, [NONE, NONE], [NONE, row])
            self.refused("size", printed, [NONE, NONE], [row, row])


class GrantedTest(unittest.TestCase):
    def test_by_hand(self):
        self.assertIn(Card.of_words("dddooo", "dddooo"), WISH)
        self.assertNotIn(Card.of_words("dddooo", "ddoodo"), WISH)
        lone = Wish(Print(INKS[:1]), FRONT[:1], TOP[:1])
        self.assertEqual([word for word in all_words(3) if Card.of_words(word) in lone], ["dddooo", "ddodoo"])

    def test_against_all_cards(self):
        granted = 0
        for wish in some_wishes():
            words = [slow_granted(wish, c) for c in range(wish.width)]
            for card in small_cards(wish.size, wish.width):
                told = all(word in words[c] for c, word in enumerate(card.words))
                self.assertIs(card in wish, told)
                granted += told
        self.assertGreater(granted, 100)

    def test_marks_are_never_looked_at(self):
        wish = Wish(Print([[1, 2, 3, 4]] * 2), [(1, 2)] * 2, [(3, 4)] * 2)
        card = Card.of_words("ddoo", "ddoo")
        self.assertTrue(card in wish and card.with_marks([(0, 1), (0, 2)]) in wish)
        self.assertFalse(Card.of_words("ddoo", "dodo").with_marks([(0, 1)]) in wish)

    def test_other_things(self):
        wish = Wish(Print.plain(2, 2), [(None, None)] * 2, [(None, None)] * 2)
        self.assertIn(Card.of_words("ddoo", "dodo"), wish)
        for thing in (Card.of_words("ddoo"), Card.of_words("ddoo", "ddoo", "ddoo"), Card.of_words("dddooo", "dddooo"),
                      Card.of_words("do", "do"), Column("ddoo"), ("ddoo", "ddoo"), [Column("ddoo")] * 2, *NO_NUMBERS,
                      Anything(), wish, Print.plain(2, 2)):
            self.assertNotIn(thing, wish)

    def test_what_a_card_shows(self):
        chance = random.Random(6)
        for words in product(all_words(3), repeat=2):
            printed = Print([[chance.randrange(3) for _ in range(6)] for _ in range(2)])
            front, top = ([[ink for ink, told in zip(row, word) if told == letter]
                           for row, word in zip(printed.inks, words)] for letter in "do")
            self.assertIn(Card.of_words(*words), Wish(printed, front, top))


class MissedPlacesTest(Raises, unittest.TestCase):
    def test_by_hand(self):
        wish = Wish(Print(((1, 2, 3, 4),)), ((7, 3),), ((2, 4),))
        self.assertEqual(missed_places(wish, Card.of_words("ddoo")), (("front", 0, 0), ("front", 0, 1), ("top", 0, 0)))
        self.assertEqual(missed_places(wish, Card.of_words("dodo")), (("front", 0, 0),))
        self.assertEqual(missed_places(WISH, Card.of_words("dddooo", "ddoodo")), (("front", 1, 2),))

    def test_against_all_cards(self):
        for wish in some_wishes():
            for card in small_cards(wish.size, wish.width):
                told = [place for c, word in enumerate(card.words) for place in slow_misses(wish, c, word)]
                found = missed_places(wish, card)
                self.assertEqual(found, tuple(told))
                self.assertEqual({place.__class__ for place in found} - {tuple}, set())
                self.assertEqual(found == (), card in wish)
                self.assertIn(card, wish.loosened(*found))

    def test_marks(self):
        card = Card.of_words("dddooo", "dddooo", marks=[(0, 2)])
        self.assertEqual(missed_places(WISH, card), missed_places(WISH, card.unmarked()))

    def test_unlike(self):
        for words in (("do", "do"), ("ddoo",), ("ddoo",) * 3):
            self.raises(UnlikeWish, {"what": "size"}, missed_places, WISH, Card.of_words(*words))
        for words in (("dddooo",), ("dddooo",) * 3):
            self.raises(UnlikeWish, {"what": "width"}, missed_places, WISH, Card.of_words(*words))


class LoosenedTest(Raises, unittest.TestCase):
    def test_places(self):
        self.assertEqual(WISH.loosened(), WISH)
        self.assertIsNot(WISH.loosened(), WISH)
        found = WISH.loosened(("front", 0, 1), ["top", 1, 2], ("front", 1, 0), ("front", 0, 1))
        self.assertEqual(found, Wish(Print(INKS), ((1, None, 1), (None, 3, 4)), ((1, 2, 2), (4, None, None))))
        self.assertEqual((WISH.front, WISH.top), (FRONT, TOP))
        every = [(view, c, k) for view in ("front", "top") for c in range(2) for k in range(3)]
        self.assertEqual(WISH.loosened(*every), Wish(Print(INKS), (NONE, NONE), (NONE, NONE)))

    def test_no_place(self):
        for thing in (*NO_SEQUENCES, (), ("front", 0), ("front", 0, 0, 0), ("side", 0, 0), ("fronttop", 0, 0), (1, 0, 0),
                      ("front", 2, 0), ("top", -1, 0), ("top", 0, 3), ("top", 0, -1), (Anything(), 0, 0), ["top", 0, "0"],
                      (["top"], 0, 0), (None, 0, 0)):
            self.raises(NoWishPlace, {"place": thing}, WISH.loosened, thing)
            self.raises(NoWishPlace, {"place": thing}, WISH.loosened, ("front", 0, 0), thing, None)
        for thing in NO_NUMBERS:
            self.raises(NoWishPlace, {"place": ("top", thing, 0)}, WISH.loosened, ("top", thing, 0))
            self.raises(NoWishPlace, {"place": ("front", 0, thing)}, WISH.loosened, ("front", 0, thing))


class BothTest(Raises, unittest.TestCase):
    def test_by_hand(self):
        printed = Print([[1, 2, 3, 4]])
        one = Wish(printed, ((1, None),), ((None, 4),))
        other = Wish(printed, ((None, 2),), ((None, 4),))
        self.assertEqual(one & other, Wish(printed, ((1, 2),), ((None, 4),)))
        self.assertEqual(other & one, one & other)
        self.assertEqual(one & one, one)
        zero = Wish(printed, ((0, None),), ((None, 0),))
        self.assertEqual(zero & Wish(printed, ((0, 0),), ((0, None),)), Wish(printed, ((0, 0),), ((0, 0),)))

    def test_grants_what_both_grant(self):
        chance = random.Random(72)
        both = 0
        for size, width in ((2, 2), (3, 1), (3, 2)):
            for _ in range(40):
                one = some_wish(chance, size, width, 40, 2, Print, Wish)
                two = some_wish(chance, size, width, 40, 2, Print, Wish)
                other = Wish(one.printed, two.front, two.top)
                cards = [card for card in small_cards(size, width) if card in one and card in other]
                clash = self.clash(one, other)
                if clash is None:
                    self.assertEqual([card for card in small_cards(size, width) if card in one & other], cards)
                    both += 1
                else:
                    self.raises(WishesClash, {"place": clash}, lambda: one & other)
                    self.assertEqual(cards, [])
        self.assertGreater(both, 5)

    def clash(self, one, other):
        for view in ("front", "top"):
            for c, (row, asked) in enumerate(zip(getattr(one, view), getattr(other, view))):
                for k, (ink, wished) in enumerate(zip(row, asked)):
                    if None not in (ink, wished) and ink != wished:
                        return (view, c, k)
        return None

    def test_errors_in_their_order(self):
        self.raises(UnlikeWish, {"what": "size"}, lambda: WISH & Wish(Print.plain(2, 1), [[1, 1]], [[1, 1]]))
        self.raises(UnlikeWish, {"what": "width"}, lambda: WISH & Wish(Print.plain(3, 1), [[9] * 3], [[9] * 3]))
        self.raises(UnlikeWish, {"what": "print"}, lambda: WISH & Wish(Print.plain(3, 2), [[9] * 3] * 2, [[9] * 3] * 2))
        nine = Wish(Print(INKS), [[9] * 3] * 2, [[9] * 3] * 2)
        self.raises(WishesClash, {"place": ("front", 0, 0)}, lambda: WISH & nine)
        self.raises(WishesClash, {"place": ("front", 1, 1)}, lambda: WISH & Wish(Print(INKS), [FRONT[0], [9] * 3], nine.top))
        self.raises(WishesClash, {"place": ("top", 1, 2)}, lambda: WISH & Wish(Print(INKS), FRONT, [TOP[0], [4, 9, 9]]))


class TurningTest(unittest.TestCase):
    def test_by_hand(self):
        found = WISH.mirrored()
        self.assertEqual(found.printed, Print(INKS).mirrored())
        self.assertEqual((found.front, found.top), (((2, 2, 1), (5, None, 4)), ((1, 2, 1), (4, 3, None))))
        self.assertEqual(WISH.turned(), Wish(Print(INKS[::-1]), FRONT[::-1], TOP[::-1]))
        self.assertEqual((WISH.mirrored().mirrored(), WISH.turned().turned()), (WISH, WISH))

    def test_grant_the_mirrored_and_the_turned_cards(self):
        for wish in some_wishes():
            for card in small_cards(wish.size, wish.width):
                self.assertEqual(card.mirrored() in wish.mirrored(), card in wish)
                self.assertEqual(card.turned() in wish.turned(), card in wish)
