import random
import unittest
from itertools import product

from helpers import NO_NUMBERS, Anything, Raises, all_words, heights_of
from slitstairs.allcards import all_cards, card_at, how_many_cards
from slitstairs.cards import Card
from slitstairs.errors import BadSlope, BadView
from slitstairs.lookalikes import Lookalikes
from slitstairs.prints import Print
from slitstairs.slopes import alike_by, alike_from, slopes_alike
from slitstairs.views import slope_view

SLOPES = [slope for slope in product(range(10), repeat=2) if slope != (0, 0)]
WORDS = ("front", "top", "even", "between")


def word_of(p, q):
    """The word of a slope."""
    if p == q:
        return "even"
    return "front" if q == 0 else "top" if p == 0 else "between"


def some_pairs():
    """Pairs of cards of one size and width, many of them nearly alike, with a print."""
    chance = random.Random(231)
    for size, width, many in ((1, 2, 2), (2, 1, 12), (2, 3, 15), (3, 1, 30), (3, 2, 25), (4, 1, 40), (4, 2, 15), (6, 3, 6)):
        for _ in range(many):
            one = card_at(size, width, chance.randrange(how_many_cards(size, width)))
            inks = chance.choice((1, 2, 2, 3))
            printed = Print([[chance.randrange(inks) for _ in range(2 * size)] for _ in range(width)])
            alike = Lookalikes(one, printed)
            yield one, alike.lookalike_at(chance.randrange(alike.alike_many)), printed
            yield one, card_at(size, width, chance.randrange(how_many_cards(size, width))), printed
            words = list(one.words)
            c = chance.randrange(width)
            words[c] = chance.choice(all_words(size))
            yield one, Card.of_words(*words), printed


class AlikeFromTest(Raises, unittest.TestCase):
    def test_for_all_prints(self):
        """A print of one ink at one cell each: a cell at which they look unlike is the first such one."""
        for size, width in ((1, 2), (2, 1), (2, 2), (3, 1)):
            cards = list(all_cards(size, width))
            for one, other in product(cards, repeat=2):
                for p, q in SLOPES[::5] + [(1, 1), (3, 3)]:
                    unlike = [(c, t) for c in range(width) for t in range(2 * size)
                              if slope_view(one, Print.alone(size, width, c, t), p, q)
                              != slope_view(other, Print.alone(size, width, c, t), p, q)]
                    found = alike_from(one, other, p, q)
                    self.assertEqual(found, unlike[0] if unlike else None)
                    self.assertEqual(found is None, p == q or one.words == other.words)
                    if found is not None:
                        c, t = found
                        self.assertEqual(one.words[c][:t], other.words[c][:t])
                        self.assertNotEqual(one.words[c][t], other.words[c][t])
                        self.assertIs(found.__class__, tuple)

    def test_alike_with_every_print(self):
        for one, other, printed in some_pairs():
            for p, q in ((1, 1), (7, 7), (2, 1), (1, 0)):
                if alike_from(one, other, p, q) is None:
                    self.assertEqual(slope_view(one, printed, p, q), slope_view(other, printed, p, q))

    def test_later_columns(self):
        one = Card.of_words("ddoo", "ddoo", "dodo")
        self.assertEqual(alike_from(one, Card.of_words("ddoo", "dodo", "ddoo"), 2, 1), (1, 1))
        self.assertEqual(alike_from(one, Card.of_words("ddoo", "ddoo", "ddoo"), 0, 1), (2, 1))
        self.assertIsNone(alike_from(one, one.with_marks([(0, 1)]), 0, 1))

    def test_wrong_slopes_and_cards(self):
        one = Card.of_words("ddoo", "dodo")
        for other in (Card.of_words("ddoo"), Card.of_words("do", "do"), Card.of_words("ddoo", "ddoo", "ddoo")):
            self.raises(BadView, {"what": "cards"}, alike_from, one, other, None, None)
            self.raises(BadView, {"what": "cards"}, alike_from, other, one, 1, 2)
        for thing in (*NO_NUMBERS, Anything(), -1, 10, 10 ** 20):
            self.raises(BadSlope, {"what": "p"}, alike_from, one, one, thing, thing)
            self.raises(BadSlope, {"what": "q"}, alike_from, one, one, 9, thing)
        self.raises(BadSlope, {"what": "both"}, alike_from, one, one, 0, 0)


class AlikeByTest(Raises, unittest.TestCase):
    def spots(self, card, printed, p, q):
        """What is seen of each column, spot by spot."""
        return [[ink for ink, length in pieces for _ in range(length)] for pieces in slope_view(card, printed, p, q)]

    def test_against_slope_view(self):
        kinds = []
        for one, other, printed in some_pairs():
            for p, q in SLOPES[::9] + [(1, 0), (0, 1), (1, 1), (2, 1)]:
                seen, told = self.spots(one, printed, p, q), self.spots(other, printed, p, q)
                unlike = [(c, spot) for c, row in enumerate(seen) for spot, ink in enumerate(row) if told[c][spot] != ink]
                found = alike_by(one, other, printed, p, q)
                self.assertEqual(found, unlike[0] if unlike else None)
                self.assertEqual(found is None, slope_view(one, printed, p, q) == slope_view(other, printed, p, q))
                kinds.append(found)
        self.assertGreater(kinds.count(None), 50)
        self.assertGreater(len(set(kinds)), 30)

    def test_by_hand(self):
        one, other = Card.of_words("ddoo"), Card.of_words("dodo")
        printed = Print([[1, 2, 3, 4]])
        # The front shows 1, 2 and 1, 3; above are 3, 4 and 2, 4.
        self.assertEqual(alike_by(one, other, printed, 5, 0), (0, 5))
        self.assertEqual(alike_by(one, other, printed, 0, 3), (0, 0))
        # From (2, 1): 1 1 2 2 3 4 and 1 1 2 3 3 4.
        self.assertEqual(alike_by(one, other, printed, 2, 1), (0, 3))
        self.assertIsNone(alike_by(one, other, printed, 4, 4))

    def test_wrong_things(self):
        one = Card.of_words("ddoo", "dodo")
        misfits = (Print.plain(2, 1), Print.plain(2, 3), Print.plain(1, 2))
        for other in (Card.of_words("ddoo"), Card.of_words("do", "do")):
            for printed in (Print.plain(2, 2), *misfits):
                self.raises(BadView, {"what": "cards"}, alike_by, one, other, printed, None, None)
                self.raises(BadView, {"what": "cards"}, slopes_alike, one, other, printed)
        for printed in misfits:
            self.raises(BadView, {"what": "print"}, alike_by, one, one, printed, None, None)
            self.raises(BadView, {"what": "print"}, slopes_alike, one, one, printed)
        for thing in (*NO_NUMBERS, Anything(), -1, 10, 10 ** 20):
            self.raises(BadSlope, {"what": "p"}, alike_by, one, one, Print.plain(2, 2), thing, thing)
            self.raises(BadSlope, {"what": "q"}, alike_by, one, one, Print.plain(2, 2), 0, thing)
        self.raises(BadSlope, {"what": "both"}, alike_by, one, one, Print.plain(2, 2), 0, 0)


class SlopesAlikeTest(unittest.TestCase):
    def test_the_example(self):
        found = slopes_alike(Card.of_words("ddddoooo"), Card.of_words("ddooddoo"), Print([[0, 1] * 4]))
        self.assertEqual(found, ("front", "top", "even"))

    def test_against_all_slopes(self):
        kinds = set()
        for one, other, printed in some_pairs():
            alike = {word: set() for word in WORDS}
            for p, q in SLOPES:
                alike[word_of(p, q)].add(slope_view(one, printed, p, q) == slope_view(other, printed, p, q))
            # From all slopes of one word they look alike, or from none.
            self.assertEqual([len(told) for told in alike.values()], [1] * 4)
            found = slopes_alike(one, other, printed)
            self.assertEqual(found, tuple(word for word in WORDS if alike[word] == {True}))
            self.assertIn("even", found)
            if "between" in found:
                self.assertEqual(found, WORDS)
            kinds.add(found)
        self.assertLessEqual({WORDS, ("even",), ("front", "even"), ("top", "even"), ("front", "top", "even")}, kinds | {
            slopes_alike(Card.of_words("ddddoooo"), Card.of_words("ddooddoo"), Print([[0, 1] * 4]))})

    def test_heights_at_ink_changes(self):
        for one, other, printed in some_pairs():
            level = all(
                heights_of(one.words[c])[boundary] == heights_of(other.words[c])[boundary]
                for c, inks in enumerate(printed.inks)
                for boundary in range(1, len(inks)) if inks[boundary] != inks[boundary - 1])
            self.assertEqual(level, "between" in slopes_alike(one, other, printed))
            self.assertEqual(level, alike_by(one, other, printed, 9, 8) is None)

    def test_marks_are_never_seen(self):
        one = Card.of_words("ddoo", "dodo")
        printed = Print([[1, 2, 3, 4], [5, 6, 7, 8]])
        self.assertEqual(slopes_alike(one, one.with_marks([(0, 2)]), printed), WORDS)
        self.assertIsNone(alike_by(one, one.with_marks([(0, 2)]), printed, 1, 0))
