import random
import unittest
from itertools import combinations

from helpers import NO_NUMBERS, Anything, Raises
from slitstairs.cards import Card
from slitstairs.errors import BadHold, TooManyPanels
from slitstairs.follow import Stuck, follow_of
from slitstairs.knots import is_knot, knots_of
from slitstairs.leaders import Holding, leaders_of
from slitstairs.panels import letter_panels, panels_of
from test_knots import EXAMPLE, STEEP, all_lots, known_of, marked_card, slow_least, small_cards


def leads(card, lot, panels):
    return set(panels) <= set(known_of(card, lot))


class LeadersOfTest(Raises, unittest.TestCase):
    def test_the_example(self):
        self.assertEqual((leaders_of(EXAMPLE, "o"), leaders_of(EXAMPLE, "d")), (((1,), (3,), (6,)), ((),)))
        self.assertEqual(leaders_of(Card.of_words("dodododo"), "o"), ((1, 3), (1, 5), (3, 5)))

    def test_where_all_follow(self):
        for words in (["do"], ["ddoo"] * 12, ["dododo", "ddoodo"]):
            for letter in "do":
                self.assertEqual((knots_of(Card.of_words(*words), letter), leaders_of(Card.of_words(*words), letter)),
                                 ((), ((),)))

    def test_against_all_lots(self):
        several = 0
        for card in small_cards():
            for letter in "do":
                panels = letter_panels(card, letter)
                if len(panels) <= 7:
                    found = leaders_of(card, letter)
                    self.assertEqual(found, slow_least([lot for lot in all_lots(panels) if leads(card, lot, panels)]))
                    self.assertEqual({part.__class__ for part in (found, *found)}, {tuple})
                    several += len(found) > 2
        self.assertGreater(several, 20)

    def test_knots_and_leaders_meet(self):
        for card in list(small_cards())[::2]:
            for letter in "do":
                panels = letter_panels(card, letter)
                if len(panels) > 6:
                    continue
                knots, leaders = knots_of(card, letter), leaders_of(card, letter)
                for lot in all_lots(panels):
                    self.assertEqual(leads(card, lot, panels), all(set(lot) & set(knot) for knot in knots))
                    holds_one = any(is_knot(card, part) for part in all_lots(lot))
                    self.assertEqual(holds_one, all(set(lot) & set(leader) for leader in leaders))

    def test_none_lies_within_another(self):
        for card in small_cards():
            for letter in "do":
                found = leaders_of(card, letter)
                self.assertEqual(list(found), sorted(found, key=lambda lot: (len(lot), lot)))
                for one, other in combinations(found, 2):
                    self.assertFalse(set(one) <= set(other))

    def test_twelve_and_thirteen_panels(self):
        twelve = marked_card(STEEP, STEEP, "ddooddddoooo")
        panels = letter_panels(twelve, "o")
        found = leaders_of(twelve, "o")
        self.assertGreater(len(found), 3)
        for leader in found:
            self.assertTrue(leads(twelve, leader, panels))
            for panel in leader:
                self.assertFalse(leads(twelve, tuple(set(leader) - {panel}), panels))
        thirteen = marked_card(STEEP, STEEP, "dododdddoooo")
        for letter in "do":
            self.raises(TooManyPanels, {"count": 13}, leaders_of, thirteen, letter)


class HoldingTest(Raises, unittest.TestCase):
    def state(self, holding):
        return (holding.card, holding.held, holding.known, holding.rest, len(holding), list(holding))

    def agrees(self, holding, card, held):
        """The holding is what follow_of says of these panels."""
        told = follow_of(card, sorted(held))
        known = tuple(range(len(panels_of(card))))
        rest = ()
        if isinstance(told, Stuck):
            known, rest = told.known, told.rest
        held = tuple(sorted(held))
        self.assertEqual(self.state(holding), (card, held, known, rest, len(held), list(held)))
        for part in (holding.held, holding.known, holding.rest):
            self.assertIs(part.__class__, tuple)

    def test_the_example(self):
        holding = Holding(EXAMPLE)
        self.assertIs(holding.card, EXAMPLE)
        self.assertEqual((holding.held, holding.known, holding.rest), ((), (0, 2, 4, 5, 7), (1, 3, 6)))
        self.assertEqual(holding.hold(6), (1, 3, 6))
        self.assertEqual((holding.held, holding.known, holding.rest), ((6,), tuple(range(8)), ()))
        # A panel that is known but not held may be held.
        self.assertEqual(holding.hold(1), ())
        self.assertEqual((holding.free(6), holding.rest), ((), ()))
        self.assertEqual((holding.free(1), holding.rest), ((1, 3, 6), (1, 3, 6)))

    def test_rows_of_calls(self):
        chance = random.Random(164)
        for card in list(small_cards())[::2]:
            many = len(panels_of(card))
            holding, held = Holding(card), []
            self.agrees(holding, card, held)
            for _ in range(12):
                panel = chance.randrange(many)
                before = set(holding.known)
                if panel in held:
                    self.refused(holding, {"panel": panel, "what": "held"}, holding.hold, panel)
                    found = holding.free(panel)
                    held.remove(panel)
                    self.assertEqual(found, tuple(sorted(before - set(holding.known))))
                else:
                    self.refused(holding, {"panel": panel, "what": "free"}, holding.free, panel)
                    found = holding.hold(panel)
                    held.append(panel)
                    self.assertEqual(found, tuple(sorted(set(holding.known) - before)))
                self.agrees(holding, card, held)
                others = [panel for panel in range(many) if panel not in held]
                tried = chance.sample(others, chance.randrange(min(len(others), 3) + 1))
                told = follow_of(card, held + tried)
                self.assertEqual(holding.try_holds(chance.choice((list, tuple))(tried)),
                                 told.rest if isinstance(told, Stuck) else ())
                self.agrees(holding, card, held)

    def refused(self, holding, attributes, call, *args):
        before = self.state(holding)
        self.raises(BadHold, attributes, call, *args)
        self.assertEqual(self.state(holding), before)

    def test_wrong_panels(self):
        holding = Holding(EXAMPLE)
        holding.hold(1)
        holding.hold(0)
        for thing in (*NO_NUMBERS, -1, 8, 10 ** 20, Anything()):
            self.refused(holding, {"panel": thing, "what": "panel"}, holding.hold, thing)
            self.refused(holding, {"panel": thing, "what": "panel"}, holding.free, thing)
            self.refused(holding, {"panel": thing, "what": "panel"}, holding.try_holds, [thing, 1])
            self.refused(holding, {"panel": thing, "what": "panel"}, holding.try_holds, (3, thing, 3))
        self.refused(holding, {"panel": 1, "what": "held"}, holding.hold, 1)
        self.refused(holding, {"panel": 3, "what": "free"}, holding.free, 3)
        # Of several panels the first one that is refused counts.
        self.refused(holding, {"panel": 0, "what": "held"}, holding.try_holds, (2, 0, None))
        self.refused(holding, {"panel": 2, "what": "held"}, holding.try_holds, [2, 2, 0])
        self.refused(holding, {"panel": 3, "what": "held"}, holding.try_holds, [3, 2, 3, 2])
        self.assertEqual(holding.try_holds(()), holding.rest)
        self.assertEqual(holding.try_holds([2]), ())

    def test_two_holdings_of_a_card(self):
        one, other = Holding(EXAMPLE), Holding(EXAMPLE)
        one.hold(3)
        self.agrees(other, EXAMPLE, [])
        self.agrees(one, EXAMPLE, [3])

    def test_lists_are_neither_kept_nor_changed(self):
        holding = Holding(EXAMPLE)
        panels = [6, 0]
        holding.try_holds(panels)
        self.assertEqual(panels, [6, 0])
        held = holding.held
        holding.hold(2)
        self.assertEqual((held, holding.held), ((), (2,)))

    def test_a_card_of_which_all_is_known(self):
        holding = Holding(Card.of_words("ddoo"))
        self.agrees(holding, Card.of_words("ddoo"), [])
        self.assertEqual((holding.hold(0), holding.free(0), holding.rest), ((), (), ()))

    def test_a_great_card(self):
        card = marked_card(*[STEEP] * 12)
        holding = Holding(card)
        self.assertEqual(len(holding.rest), 120)
        first = holding.rest[0]
        self.assertEqual(holding.hold(first), (first,))
        self.assertEqual(holding.try_holds(holding.rest[:100]), tuple(
            follow_of(card, [first, *holding.rest[:100]]).rest))
