import random
import unittest
from itertools import combinations

from helpers import NO_NUMBERS, NO_SEQUENCES, Anything, Raises
from slitstairs.allcards import all_cards, card_at, how_many_cards
from slitstairs.cards import Card
from slitstairs.equations import equation_rows
from slitstairs.errors import BadKnown, TooManyPanels
from slitstairs.follow import Follows, follow_of
from slitstairs.knots import MOST_LOT_PANELS, is_knot, knots_of
from slitstairs.motions import Sways, motion_of, only_opens, panel_motion
from slitstairs.panels import letter_panels, panels_of

EXAMPLE = Card.of_words("ddoododo", "dododdoo")
STEEP = "do" * 6


def small_cards():
    """Cards of few panels, with and without marks, of which many sway."""
    chance = random.Random(161)
    for size, width in ((1, 1), (1, 3), (2, 1), (2, 2), (3, 1), (3, 2), (4, 1)):
        yield from all_cards(size, width)
    yield from (Card.of_words("dododo", "dododo", marks=marks) for marks in ([(0, 1)], [(0, 2)], [(0, 1), (0, 3)]))
    yield EXAMPLE
    for size, width, many in ((2, 4, 6), (3, 3, 10), (4, 2, 25), (4, 3, 8), (5, 2, 12)):
        for _ in range(many):
            card = card_at(size, width, chance.randrange(how_many_cards(size, width)))
            places = [(c, t) for c in range(width - 1) for t in range(1, 2 * size - 1)]
            yield card.with_marks(chance.sample(places, chance.choice((0, 0, 2))))


def borne_sets(card, letter):
    return [{panel for panel, _ in row.factors} for row in equation_rows(card, letter)]


def all_lots(panels):
    """All lots, by length, then ascending."""
    return [lot for many in range(len(panels) + 1) for lot in combinations(panels, many)]


def slow_is_knot(rows, lot):
    return bool(lot) and all(len(row & set(lot)) != 1 for row in rows)


def slow_least(lots):
    return tuple(lot for lot in lots if not any(set(other) < set(lot) for other in lots))


def marked_card(*words):
    """The card with marks at all inner cells, so that only the boards are shared."""
    size = len(words[0]) // 2
    return Card.of_words(*words, marks=[(c, t) for c in range(len(words) - 1) for t in range(1, 2 * size - 1)])


class IsKnotTest(Raises, unittest.TestCase):
    def test_the_example(self):
        self.assertTrue(is_knot(EXAMPLE, (1, 3, 6)))
        self.assertTrue(is_knot(EXAMPLE, [6, 1, 3]))
        for lot in ((1,), (1, 3), (3, 6), (1, 3, 5, 6), (2,), (2, 4), ()):
            self.assertFalse(is_knot(EXAMPLE, lot))
        # Not every knot comes from a Sways.
        self.assertTrue(only_opens(EXAMPLE))

    def test_against_all_lots(self):
        chance = random.Random(162)
        kinds = []
        for card in small_cards():
            for letter in "do":
                rows = borne_sets(card, letter)
                panels = letter_panels(card, letter)
                if len(panels) > 9:
                    continue
                for lot in all_lots(panels):
                    told = chance.sample(lot, len(lot))
                    found = is_knot(card, chance.choice((tuple, list))(told))
                    self.assertIs(found, slow_is_knot(rows, lot))
                    kinds.append(found)
        self.assertGreater(kinds.count(True), 100)

    def test_the_empty_lot(self):
        for card in small_cards():
            self.assertIs(is_knot(card, ()), False)
            self.assertIs(is_knot(card, []), False)

    def test_lists_are_not_changed(self):
        lot = [6, 1, 3]
        is_knot(EXAMPLE, lot)
        self.assertEqual(lot, [6, 1, 3])

    def test_wrong_lots(self):
        self.assertEqual((letter_panels(EXAMPLE, "d"), letter_panels(EXAMPLE, "o")), ((0, 2, 4, 7), (1, 3, 5, 6)))
        for thing in NO_SEQUENCES:
            self.raises(BadKnown, {"index": 0, "what": "known"}, is_knot, EXAMPLE, thing)
        for thing in (*NO_NUMBERS, -1, 8, 10 ** 20, Anything()):
            self.raises(BadKnown, {"index": 0, "what": "panel"}, is_knot, EXAMPLE, (thing, thing))
            self.raises(BadKnown, {"index": 2, "what": "panel"}, is_knot, EXAMPLE, [1, 3, thing, 1, 0])
        self.raises(BadKnown, {"index": 1, "what": "double"}, is_knot, EXAMPLE, [1, 1, None])
        self.raises(BadKnown, {"index": 2, "what": "double"}, is_knot, EXAMPLE, (1, 3, 1, 0))
        self.raises(BadKnown, {"index": 1, "what": "letter"}, is_knot, EXAMPLE, (1, 0))
        self.raises(BadKnown, {"index": 2, "what": "letter"}, is_knot, EXAMPLE, [7, 2, 6, 7, None])
        # One item after another: what is wrong with one comes ahead of the items behind it.
        self.raises(BadKnown, {"index": 1, "what": "letter"}, is_knot, EXAMPLE, (1, 0, 1))
        self.raises(BadKnown, {"index": 1, "what": "letter"}, is_knot, EXAMPLE, (1, 2, 2, True))
        self.raises(BadKnown, {"index": 1, "what": "double"}, is_knot, EXAMPLE, (1, 1, 0))


class KnotsOfTest(Raises, unittest.TestCase):
    def test_the_example(self):
        self.assertEqual((knots_of(EXAMPLE, "o"), knots_of(EXAMPLE, "d")), (((1, 3, 6),), ()))
        # Each two runs out of reach of the boards are a knot of a column alone.
        card = Card.of_words("dodododo")
        self.assertEqual(knots_of(card, "o"), ((1, 3), (1, 5), (3, 5)))
        self.assertEqual(knots_of(card, "d"), ((2, 4), (2, 6), (4, 6)))

    def test_against_all_lots(self):
        several = 0
        for card in small_cards():
            for letter in "do":
                panels = letter_panels(card, letter)
                rows = borne_sets(card, letter)
                if len(panels) <= 9:
                    found = knots_of(card, letter)
                    self.assertEqual(found, slow_least([lot for lot in all_lots(panels) if slow_is_knot(rows, lot)]))
                    self.assertEqual({part.__class__ for part in (found, *found)}, {tuple})
                    self.assertEqual(found == (), set(panels) <= set(known_of(card, ())))
                    several += len({len(lot) for lot in found}) > 1
        self.assertGreater(several, 2)

    def test_none_lies_within_another(self):
        for card in small_cards():
            for letter in "do":
                found = knots_of(card, letter)
                self.assertEqual(list(found), sorted(found, key=lambda lot: (len(lot), lot)))
                for one, other in combinations(found, 2):
                    self.assertFalse(set(one) <= set(other))

    def test_what_is_left_is_a_knot(self):
        chance = random.Random(163)
        for card in small_cards():
            panels = list(range(len(panels_of(card))))
            for _ in range(3):
                known = chance.sample(panels, chance.randrange(min(3, len(panels)) + 1))
                rest = set(panels) - set(known_of(card, known))
                for letter in "do":
                    left = rest & set(letter_panels(card, letter))
                    self.assertTrue(not left or is_knot(card, sorted(left)))
                    for knot in knots_of(card, letter):
                        if not set(knot) & set(known):
                            self.assertLessEqual(set(knot), left)

    def test_motions_turn_knots(self):
        turned = 0
        for card in small_cards():
            motions = [motion_of(card)] + [panel_motion(card, panel.number) for panel in panels_of(card)]
            for told in motions:
                if isinstance(told, Sways):
                    turned += 1
                    self.assertTrue(is_knot(card, [panel for panel, rate in enumerate(told.rates) if rate]))
        self.assertGreater(turned, 50)

    def test_twelve_and_thirteen_panels(self):
        self.assertEqual(MOST_LOT_PANELS, 12)
        twelve = marked_card(STEEP, STEEP, "ddoo" + "d" * 4 + "o" * 4)
        self.assertEqual([len(letter_panels(twelve, letter)) for letter in "do"], [12, 12])
        for letter in "do":
            rows = borne_sets(twelve, letter)
            found = knots_of(twelve, letter)
            self.assertGreater(len(found), 10)
            for knot in found:
                self.assertTrue(slow_is_knot(rows, knot))
                for panel in knot:
                    self.assertFalse(slow_is_knot(rows, set(knot) - {panel}))
        thirteen = marked_card(STEEP, STEEP, "do" * 2 + "d" * 4 + "o" * 4)
        self.assertEqual([len(letter_panels(thirteen, letter)) for letter in "do"], [13, 13])
        for letter in "do":
            self.raises(TooManyPanels, {"count": 13}, knots_of, thirteen, letter)
        great = marked_card(*[STEEP] * 12)
        self.raises(TooManyPanels, {"count": 61}, knots_of, great, "d")
        # A knot of a greater card may be asked for.
        self.assertTrue(is_knot(great, letter_panels(great, "d")[1:]))

    def test_the_letters_are_counted_apart(self):
        card = Card.of_words("ddodododoodo", "dododododdoo", "ddododooddoo", "ddodododoodo")
        self.assertEqual([len(letter_panels(card, letter)) for letter in "do"], [13, 12])
        self.raises(TooManyPanels, {"count": 13}, knots_of, card, "d")
        rows = borne_sets(card, "o")
        lots = [lot for lot in all_lots(letter_panels(card, "o")) if slow_is_knot(rows, lot)]
        self.assertEqual(knots_of(card, "o"), slow_least(lots))


def known_of(card, known):
    told = follow_of(card, known)
    return range(len(panels_of(card))) if isinstance(told, Follows) else told.known
