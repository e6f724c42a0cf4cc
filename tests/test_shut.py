import random
import unittest

from helpers import NO_NUMBERS, Raises, all_words, crossed, heights_of
from slitstairs.allcards import card_at, how_many_cards
from slitstairs.cards import Card
from slitstairs.errors import BadBoundary, BadPlace, NoColumn, NoLayer
from slitstairs.shut import (
    gutter_distance, layer_of, layer_steps, middles, thickest, thickness, thickness_row, touching)

EXAMPLE = Card.of_words("dddooo", "ddodoo", "dododo", marks=[(0, 1), (1, 3)])


def some_cards():
    """All columns of sizes 1 to 5 as cards, and some wider cards."""
    for size in range(1, 6):
        for word in all_words(size):
            yield Card.of_words(word)
    chance = random.Random(211)
    for size, width in ((1, 12), (2, 5), (3, 3), (4, 4), (6, 2), (6, 12)):
        for _ in range(6):
            yield card_at(size, width, chance.randrange(how_many_cards(size, width)))


def slow_layer(word, t):
    """The layer of a cell, by the places at both its ends."""
    (x, y), (u, v) = crossed(word)[t:t + 2]
    return min(x + y, u + v)


def slow_steps(word, k):
    return [t for t in range(len(word)) if slow_layer(word, t) == k]


class LayersTest(unittest.TestCase):
    def test_the_example(self):
        self.assertEqual([thickness_row(EXAMPLE, c) for c in range(3)], [(2, 2, 2), (0, 4, 2), (0, 0, 6)])
        self.assertEqual((layer_steps(EXAMPLE, 0, 0), layer_steps(EXAMPLE, 1, 1)), ((2, 3), (1, 2, 3, 4)))
        self.assertEqual(middles(EXAMPLE, 1, 1), ((0, 3), (1, 2), (2, 1), (3, 0)))
        self.assertEqual(touching(EXAMPLE, 1, 1), ((1, 2, "print"), (2, 3, "blank"), (3, 4, "print")))
        self.assertEqual(thickest(EXAMPLE), (6, 2, 2))

    def test_distances(self):
        for card in some_cards():
            for c, word in enumerate(card.words):
                for t, (x, y) in enumerate(crossed(word)):
                    self.assertEqual(gutter_distance(card, c, t), x + y)
                    self.assertEqual(gutter_distance(card, c, t), card.size - heights_of(word)[t])

    def test_layers_and_steps(self):
        for card in some_cards():
            for c, word in enumerate(card.words):
                for t in range(len(word)):
                    k = layer_of(card, c, t)
                    self.assertEqual(k, slow_layer(word, t))
                    self.assertEqual(sorted((gutter_distance(card, c, t), gutter_distance(card, c, t + 1))), [k, k + 1])
                for k in range(card.size):
                    steps = layer_steps(card, c, k)
                    self.assertEqual(steps, tuple(slow_steps(word, k)))
                    self.assertEqual("".join(word[t] for t in steps), "do" * (len(steps) // 2))
                    self.assertEqual(thickness(card, c, k), len(steps))
                self.assertEqual(thickness_row(card, c), tuple(len(slow_steps(word, k)) for k in range(card.size)))
                self.assertEqual(sum(thickness_row(card, c)), len(word))

    def test_thickness_by_heights(self):
        for card in some_cards():
            for c, word in enumerate(card.words):
                heights = heights_of(word)
                for k in range(card.size):
                    pair = {card.size - k, card.size - k - 1}
                    self.assertEqual(thickness(card, c, k), len([t for t in range(len(word)) if set(heights[t:t + 2]) == pair]))

    def test_middles(self):
        for card in some_cards():
            for c, word in enumerate(card.words):
                places = crossed(word)
                for k in range(card.size):
                    told = [tuple(a + b for a, b in zip(places[t], places[t + 1])) for t in slow_steps(word, k)]
                    self.assertEqual(middles(card, c, k), tuple(told))
                    self.assertEqual([x + y for x, y in told], [2 * k + 1] * len(told))
                    self.assertEqual([x for x, _ in told], sorted({x for x, _ in told}))

    def test_touching(self):
        for card in some_cards():
            for c, word in enumerate(card.words):
                for k in range(card.size):
                    steps = slow_steps(word, k)
                    told = [(t, other, "print" if word[t] == "d" else "blank") for t, other in zip(steps, steps[1:])]
                    self.assertEqual(touching(card, c, k), tuple(told))
                    self.assertEqual([side for _, _, side in told], ["print", "blank"] * (len(told) // 2) + ["print"] * (len(told) % 2))

    def test_thickest(self):
        ties = 0
        for card in some_cards():
            rows = [[len(slow_steps(word, k)) for k in range(card.size)] for word in card.words]
            most = max(max(row) for row in rows)
            places = [(c, k) for c, row in enumerate(rows) for k, number in enumerate(row) if number == most]
            self.assertEqual(thickest(card), (most, *places[0]))
            ties += len(places) > 1
        self.assertGreater(ties, 20)

    def test_ties(self):
        self.assertEqual(thickest(Card.of_words("dddooo")), (2, 0, 0))
        self.assertEqual(thickest(Card.of_words("dddooo", "ddoodo", "ddodoo")), (4, 1, 2))
        self.assertEqual(thickest(Card.of_words("ddodoo", "ddoodo")), (4, 0, 1))

    def test_marks_change_nothing(self):
        plain = EXAMPLE.unmarked()
        for c in range(3):
            self.assertEqual(thickness_row(EXAMPLE, c), thickness_row(plain, c))
            for k in range(3):
                self.assertEqual(touching(EXAMPLE, c, k), touching(plain, c, k))
                self.assertEqual(middles(EXAMPLE, c, k), middles(plain, c, k))
        self.assertEqual(thickest(EXAMPLE), thickest(plain))

    def test_mirrored_and_turned(self):
        for card in some_cards():
            for c in range(card.width):
                self.assertEqual(thickness_row(card.mirrored(), c), thickness_row(card, c))
                self.assertEqual(thickness_row(card.turned(), card.width - 1 - c), thickness_row(card, c))

    def test_everything_is_a_tuple(self):
        for told in (layer_steps(EXAMPLE, 1, 1), middles(EXAMPLE, 1, 1), touching(EXAMPLE, 1, 1), thickness_row(EXAMPLE, 1),
                     thickest(EXAMPLE), middles(EXAMPLE, 1, 1)[0], touching(EXAMPLE, 1, 1)[0], layer_steps(EXAMPLE, 1, 0)):
            self.assertIs(told.__class__, tuple)


class ErrorsTest(Raises, unittest.TestCase):
    def test_columns(self):
        for thing in (*NO_NUMBERS, -1, 3, 10 ** 20):
            self.raises(NoColumn, {"column": thing}, gutter_distance, EXAMPLE, thing, None)
            for call in (layer_steps, middles, thickness, touching):
                self.raises(NoColumn, {"column": thing}, call, EXAMPLE, thing, None)
            self.raises(NoColumn, {"column": thing}, thickness_row, EXAMPLE, thing)

    def test_layers(self):
        for thing in (*NO_NUMBERS, -1, 3, 10 ** 20):
            for call in (layer_steps, middles, thickness, touching):
                for c in range(3):
                    self.raises(NoLayer, {"layer": thing}, call, EXAMPLE, c, thing)

    def test_boundaries(self):
        self.assertEqual(gutter_distance(EXAMPLE, 2, 6), 3)
        for thing in (*NO_NUMBERS, -1, 7, 10 ** 20):
            self.raises(BadBoundary, {"boundary": thing}, gutter_distance, EXAMPLE, 2, thing)

    def test_places(self):
        for thing in (*NO_NUMBERS, -1, 3, 10 ** 20):
            self.raises(BadPlace, {"column": thing, "step": 0}, layer_of, EXAMPLE, thing, 0)
        for thing in (*NO_NUMBERS, -1, 6, 10 ** 20):
            self.raises(BadPlace, {"column": 2, "step": thing}, layer_of, EXAMPLE, 2, thing)
            self.raises(BadPlace, {"column": None, "step": thing}, layer_of, EXAMPLE, None, thing)
