import random
import unittest
from itertools import permutations

from helpers import NO_NUMBERS, Anything, Raises
from slitstairs.allcards import all_cards, card_at, how_many_cards
from slitstairs.braced import BracedOrder, NoBracedOrder, brace_fault, braced_order, braced_pulls, led_back
from slitstairs.cards import Card
from slitstairs.errors import BadPull, BadTable, NotBraced
from slitstairs.motions import Sways, freedom_of, motion_fault, motion_of, only_opens, panel_motion
from slitstairs.panels import floor_panel, panel_table, panels_of
from slitstairs.pulls import Pull, let_pulls, pull_card, pull_fault
from slitstairs.studio import Studio

CARD = Card.of_words("dddooo", "dddooo")


def changed(pull):
    return {(c, t) for c in range(pull.first, pull.last + 1)
            for t in range(pull.boundary - pull.downs, pull.boundary + pull.outs)}


def slow_brace_fault(card, pull):
    """The first word that applies, by the cells of panels."""
    words, t = card.words, pull.boundary
    for c in range(pull.first, pull.last + 1):
        if words[c][:t].endswith("o" + "d" * pull.downs) or words[c][:t] == "d" * pull.downs:
            return "run"
        if words[c][t:].startswith("o" * pull.outs + "d") or words[c][t:] == "o" * pull.outs:
            return "run"
    panels = panels_of(card)
    after = panels_of(pull_card(card, pull))
    down, out = (next(panel for panel in panels if (pull.first, k) in panel.cells) for k in (t - 1, t))
    for panel, what in ((down, "ahead"), (out, "behind")):
        kept = set(panel.cells) - changed(pull)
        if not any(kept <= set(each.cells) for each in after):
            return what
    outside = [c for c in range(card.width) if not pull.first <= c <= pull.last]
    hinged = any((c, t - 1) in down.cells and (c, t) in out.cells for c in outside)
    boards = down.number == 0 and out.number == floor_panel(card)
    return None if hinged or boards else "hinge"


def some_cards():
    chance = random.Random(913)
    for size, width in ((2, 1), (2, 2), (3, 1), (3, 2), (4, 1), (5, 1)):
        yield from all_cards(size, width)
    for size, width in ((3, 3), (4, 2), (4, 3), (5, 4), (6, 3)):
        for _ in range(40):
            words = card_at(size, width, chance.randrange(how_many_cards(size, width) // 3)).words
            words = [chance.choice([words[c], words[max(c - 1, 0)], words[0]]) for c in range(width)]
            places = [(c, t) for c in range(width - 1) for t in range(1, 2 * size - 1)]
            yield Card.of_words(*words, marks=chance.sample(places, chance.choice((0, 0, 2))))


class BraceFaultTest(Raises, unittest.TestCase):
    def test_the_example(self):
        self.assertEqual(brace_fault(Card.of_words("ddooddoo"), Pull(0, 0, 2)), "hinge")

    def test_by_hand(self):
        self.assertIsNone(brace_fault(CARD, Pull(0, 1, 3)))
        self.assertIsNone(brace_fault(CARD, Pull(1, 1, 3)))
        self.assertEqual(brace_fault(Card.of_words("ddodoo", "ddodoo"), Pull(0, 0, 2)), "run")
        self.assertEqual(brace_fault(Card.of_words("ddodoo", "ddodoo"), Pull(0, 0, 4)), "run")
        self.assertIsNone(brace_fault(Card.of_words("ddooddoo", "ddooddoo"), Pull(0, 0, 2)))
        self.assertEqual(brace_fault(Card.of_words("ddooddoo", "ddooddoo"), Pull(0, 1, 2)), "hinge")

    def test_against_cells(self):
        found = []
        for card in some_cards():
            for pull in let_pulls(card):
                fault = brace_fault(card, pull)
                self.assertEqual(fault, slow_brace_fault(card, pull), (card.words, card.marks, str(pull)))
                found.append(fault)
        for word in (None, "run", "ahead", "behind", "hinge"):
            self.assertGreater(found.count(word), 1, word)

    def test_pulls_that_are_not_let(self):
        for pull in (Pull(0, 2, 3), Pull(0, 0, 2), Pull(0, 0, 3, downs=3, outs=3), (0, 0, 3), None, *NO_NUMBERS, Anything()):
            fault = {"what": pull_fault(CARD, pull)}
            self.raises(BadPull, fault, brace_fault, CARD, pull)
            self.raises(BadPull, fault, led_back, CARD, pull, None)

    def test_braced_pulls(self):
        for card in some_cards():
            told = [pull for pull in let_pulls(card) if slow_brace_fault(card, pull) is None]
            self.assertEqual(list(braced_pulls(card)), told)
        self.assertEqual(str(next(braced_pulls(Card.of_words(*["ddddddoooooo"] * 12)))), "0-0@6:1d1o")

    def test_no_freedom_grows(self):
        for card in some_cards():
            for pull in braced_pulls(card):
                after = pull_card(card, pull)
                for letter in "do":
                    self.assertLessEqual(freedom_of(after, letter), freedom_of(card, letter))
                if only_opens(card):
                    self.assertTrue(only_opens(after))


class LedBackTest(Raises, unittest.TestCase):
    def motions(self, card):
        for panel in panels_of(card):
            told = panel_motion(card, panel.number)
            if isinstance(told, Sways):
                yield told
        told = motion_of(card)
        if isinstance(told, Sways):
            yield told

    def test_all_motions(self):
        turned = kept = 0
        for card in some_cards():
            table = panel_table(card)
            for pull in braced_pulls(card):
                after = pull_card(card, pull)
                after_table = panel_table(after)
                for motion in self.motions(after):
                    self.assertIsNone(motion_fault(after, motion))
                    back = led_back(card, pull, motion)
                    self.assertIs(back.__class__, Sways)
                    self.assertEqual(back.letter, motion.letter)
                    self.assertIsNone(motion_fault(card, back))
                    told = {}
                    for c, word in enumerate(card.words):
                        for t, letter in enumerate(word):
                            if letter == motion.letter and (c, t) not in changed(pull):
                                told.setdefault(table[c][t], set()).add(motion.rates[after_table[c][t]])
                    rates = [told.get(panel, {0}) for panel in range(len(back.rates))]
                    self.assertEqual({len(rate) for rate in rates}, {1})
                    rates = [rate.pop() for rate in rates]
                    first = next(rate for rate in rates if rate)
                    self.assertEqual(back.rates, tuple(rate if first > 0 else -rate for rate in rates))
                    turned += first < 0
                    kept += first > 0
        self.assertGreater(kept, 50)

    def test_the_other_sign(self):
        found = 0
        for card in list(some_cards())[::4]:
            for pull in braced_pulls(card):
                after = pull_card(card, pull)
                for motion in self.motions(after):
                    back = led_back(card, pull, motion)
                    other = led_back(card, pull, Sways(motion.letter, tuple(-rate for rate in motion.rates)))
                    self.assertEqual((back.letter, back.rates), (other.letter, other.rates))
                    found += 1
        self.assertGreater(found, 50)

    def test_not_braced(self):
        words = set()
        for card in some_cards():
            for pull in let_pulls(card):
                fault = slow_brace_fault(card, pull)
                if fault is not None and fault not in words:
                    self.raises(NotBraced, {"what": fault}, led_back, card, pull, None)
                    words.add(fault)
        self.assertEqual(words, {"run", "ahead", "behind", "hinge"})


class BracedOrderTest(Raises, unittest.TestCase):
    def slow_order(self, studio):
        """By trying all orders: the least braced one, and the lots that are made."""
        lots = {()}
        best = None
        for order in permutations(range(len(studio))):
            card = studio.start
            made = True
            for k, number in enumerate(order):
                if not set(studio.table[number]) <= set(order[:k]):
                    made = False
                    break
                if slow_brace_fault(card, studio.pulls[number]) is not None:
                    made = False
                    break
                card = pull_card(card, studio.pulls[number])
                lots.add(tuple(sorted(order[:k + 1])))
            if made and best is None:
                best = order
        return best, tuple(sorted(lots, key=lambda lot: (len(lot), lot)))

    def some_studios(self):
        chance = random.Random(915)
        for _ in range(150):
            size, width = chance.randrange(3, 7), chance.randrange(1, 5)
            studio = Studio(Card.of_words(*["d" * size + "o" * size] * width))
            most = chance.randrange(1, 6)
            for _ in range(20):
                pulls = list(braced_pulls(studio.card)) if chance.randrange(3) else list(let_pulls(studio.card))
                if len(studio) == most or not pulls:
                    break
                studio.pull(chance.choice(pulls))
            yield studio

    def test_against_all_orders(self):
        kinds = []
        for studio in self.some_studios():
            best, lots = self.slow_order(studio)
            before = (studio.card, studio.pulls, studio.boxes)
            found = braced_order(studio)
            self.assertEqual((studio.card, studio.pulls, studio.boxes), before)
            if best is None:
                self.assertIs(found.__class__, NoBracedOrder)
                self.assertEqual(vars(found), {"lots": lots})
            else:
                self.assertIs(found.__class__, BracedOrder)
                self.assertEqual(vars(found), {"order": best})
                self.assertTrue(only_opens(studio.card) or not only_opens(studio.start))
            kinds.append("none" if best is None else "same" if best == tuple(range(len(studio))) else "other")
        for kind, least in (("none", 5), ("same", 5), ("other", 0)):
            self.assertGreater(kinds.count(kind), least)

    def test_the_order_hangs_on_what_comes_first(self):
        pulls = (Pull(0, 1, 3, downs=2), Pull(0, 1, 4), Pull(2, 2, 3, downs=2))
        studio = Studio.with_pulls(Card.of_words("dddooo", "dddooo", "dddooo"), *pulls)
        self.assertEqual(studio.table, ((), (0,), ()))
        # Pull 1 finds its hinge outside only when pull 2 has been made.
        self.assertEqual(braced_order(studio).order, (0, 2, 1))
        self.assertEqual(brace_fault(studio.card_of((0,)), pulls[1]), "hinge")
        self.assertIsNone(brace_fault(studio.card_of((0, 2)), pulls[1]))

    def test_without_pulls(self):
        found = braced_order(Studio(CARD))
        self.assertEqual((found.__class__, found.order), (BracedOrder, ()))

    def test_no_order(self):
        studio = Studio.with_pulls(CARD, Pull(0, 1, 3), Pull(0, 0, 2), Pull(1, 1, 4))
        found = braced_order(studio)
        self.assertEqual((found.__class__, found.lots), (NoBracedOrder, ((), (0,))))
        studio = Studio.with_pulls(Card.of_words("ddooddoo"), Pull(0, 0, 2))
        self.assertEqual(braced_order(studio).lots, ((),))

    def test_ten_and_eleven_pulls(self):
        card = Card.of_words(*["dddooo"] * 12)
        pulls = [Pull(c, c, 3) for c in range(1, 12)]
        found = braced_order(Studio.with_pulls(card, *pulls[:10]))
        self.assertEqual(found.order, tuple(range(10)))
        self.raises(BadTable, {"index": 10, "what": "many"}, braced_order, Studio.with_pulls(card, *pulls))
        lone = Studio.with_pulls(Card.of_words(*["ddooddoo"] * 12), Pull(0, 11, 2), *[Pull(c, c, 6) for c in range(9)])
        self.assertIs(braced_order(lone).__class__, NoBracedOrder)

    def test_arguments_are_kept_as_they_are(self):
        self.assertEqual((vars(BracedOrder([1])), vars(NoBracedOrder(None))), ({"order": [1]}, {"lots": None}))
