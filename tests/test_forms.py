import random
import unittest
from fractions import Fraction

from helpers import NO_NUMBERS, NO_SEQUENCES, Anything, Raises, fraction_of, slow_rank
from slitstairs.cards import Card
from slitstairs.equations import equation_rows
from slitstairs.errors import BadKnown, BadRates, NotFollowing
from slitstairs.follow import Follows, follow_of
from slitstairs.forms import Clash, Forms, Led, forms_of
from slitstairs.leaders import leaders_of
from slitstairs.motions import freedom_of, panel_motion
from slitstairs.panels import letter_panels
from slitstairs.ratios import Ratio
from test_knots import EXAMPLE, STEEP, marked_card, small_cards

MOST = 10 ** 9


def some_forms():
    """(card, letter, lot, forms) for cards and lots from which all panels of the letter follow."""
    chance = random.Random(165)
    for card in list(small_cards())[::2]:
        for letter in "do":
            panels = letter_panels(card, letter)
            lots = [chance.choice(leaders_of(card, letter))]
            lots.append(tuple(chance.sample(panels, len(panels))))
            lots.append(tuple({*lots[0], chance.choice(panels)}))
            for lot in lots:
                lot = chance.sample(lot, len(lot))
                yield card, letter, lot, forms_of(card, letter, chance.choice((list, tuple))(lot))


def added(equation, forms, many):
    """What the forms put into an equation add up to, as fractions."""
    return [sum((factor * fraction_of(forms.of(panel)[k]) for panel, factor in equation.factors), Fraction(0))
            for k in range(many)]


def as_fractions(ratios):
    return [fraction_of(ratio) for ratio in ratios]


class FormsOfTest(Raises, unittest.TestCase):
    def test_the_example(self):
        forms = forms_of(EXAMPLE, "o", (1,))
        self.assertEqual([(panel, ratios[0].top) for panel, ratios in forms.rows], [(1, 1), (3, -2), (5, 0), (6, 1)])
        self.assertEqual([(name, ratios[0].top) for name, ratios in forms.conditions],
                         [(("column", 1), 2), (("cell", 0, 7), -2)])
        self.assertEqual({ratio.bottom for _, ratios in forms.rows + forms.conditions for ratio in ratios}, {1})
        clash = forms((3,))
        self.assertEqual((clash.name, clash.total.top, clash.total.bottom), (("column", 1), 6, 1))
        self.assertEqual(forms([0]), Led("o", (Ratio(0),) * 4))

    def test_by_hand(self):
        # Of one column: the rates of the inner runs add up to 0, and each is counted once.
        forms = forms_of(Card.of_words("dodododo"), "o", (5, 1))
        self.assertEqual((forms.letter, forms.lot, forms.conditions), ("o", (5, 1), ()))
        self.assertEqual(forms.rows, ((1, (Ratio(0), Ratio(1))), (3, (Ratio(-1), Ratio(-1))), (5, (Ratio(1), Ratio(0))),
                                      (7, (Ratio(0), Ratio(0)))))
        self.assertEqual(forms((4, -3)), Led("o", (Ratio(-3), Ratio(-1), Ratio(4), Ratio(0))))
        # A run of two steps is counted twice: a ratio that is no whole number.
        forms = forms_of(Card.of_words("ddodoodo"), "o", [1])
        self.assertEqual([(panel, str(ratios[0])) for panel, ratios in forms.rows], [(1, "1"), (3, "-1/2"), (5, "0")])
        self.assertEqual(forms((1,)).rates, (Ratio(1), Ratio(-1, 2), Ratio(0)))

    def test_steps_and_conditions(self):
        conditions = 0
        for card, letter, lot, forms in some_forms():
            system = equation_rows(card, letter)
            panels = letter_panels(card, letter)
            self.assertEqual((forms.letter, forms.lot), (letter, tuple(lot)))
            self.assertEqual([panel for panel, _ in forms.rows], list(panels))
            for panel, ratios in forms.rows:
                self.assertEqual(len(ratios), len(lot))
                self.assertEqual(forms.of(panel), ratios)
            for place, panel in enumerate(lot):
                self.assertEqual(as_fractions(forms.of(panel)), [int(k == place) for k in range(len(lot))])
            # The rates of all other panels are told by this alone.
            named = {row.name: row for row in system}
            steps = [(panel, name) for panel, name in follow_of(card, lot).steps if panel in panels]
            self.assertEqual(len(steps) + len(lot), len(panels))
            for _, name in steps:
                self.assertEqual(added(named[name], forms, len(lot)), [0] * len(lot))
            totals = [(row.name, added(row, forms, len(lot))) for row in system]
            self.assertEqual([(name, as_fractions(ratios)) for name, ratios in forms.conditions],
                             [(name, total) for name, total in totals if any(total)])
            conditions += len(forms.conditions)
            for part in (forms.lot, forms.rows, forms.conditions, *forms.rows, *forms.conditions):
                self.assertIs(part.__class__, tuple)
        self.assertGreater(conditions, 100)

    def test_the_freedom(self):
        for card, letter, lot, forms in some_forms():
            rank = slow_rank([as_fractions(ratios) for _, ratios in forms.conditions])
            self.assertEqual(len(lot) - rank, freedom_of(card, letter))

    def test_the_empty_lot(self):
        forms = forms_of(EXAMPLE, "d", ())
        self.assertEqual((forms.lot, forms.rows, forms.conditions), ((), ((0, ()), (2, ()), (4, ()), (7, ())), ()))
        self.assertEqual(forms([]), Led("d", (Ratio(0),) * 4))
        self.raises(BadRates, {"index": 0, "what": "rates"}, forms, (1,))

    def test_not_following(self):
        self.raises(NotFollowing, {"rest": (1, 3, 6)}, forms_of, EXAMPLE, "o", ())
        self.raises(NotFollowing, {"rest": (1, 3, 6)}, forms_of, EXAMPLE, "o", [5])
        # The rest of this letter alone counts.
        card = Card.of_words("dodododo")
        self.assertEqual(follow_of(card).rest, (1, 2, 3, 4, 5, 6))
        self.raises(NotFollowing, {"rest": (1, 3, 5)}, forms_of, card, "o", ())
        self.raises(NotFollowing, {"rest": (2, 6)}, forms_of, card, "d", (4,))
        for card in list(small_cards())[::3]:
            for letter in "do":
                for panel in letter_panels(card, letter):
                    told = follow_of(card, (panel,))
                    rest = () if isinstance(told, Follows) else tuple(
                        other for other in told.rest if other in letter_panels(card, letter))
                    if rest:
                        self.raises(NotFollowing, {"rest": rest}, forms_of, card, letter, (panel,))
                    else:
                        self.assertEqual(forms_of(card, letter, (panel,)).lot, (panel,))

    def test_wrong_lots(self):
        for thing in NO_SEQUENCES:
            self.raises(BadKnown, {"index": 0, "what": "known"}, forms_of, EXAMPLE, "o", thing)
        for thing in (*NO_NUMBERS, -1, 8, 10 ** 20, Anything(), 0, 2, 4, 7):
            self.raises(BadKnown, {"index": 0, "what": "panel"}, forms_of, EXAMPLE, "o", (thing, thing))
            self.raises(BadKnown, {"index": 2, "what": "panel"}, forms_of, EXAMPLE, "o", [1, 3, thing, 1])
        for thing in (1, 3, 5, 6):
            self.raises(BadKnown, {"index": 0, "what": "panel"}, forms_of, EXAMPLE, "d", (thing,))
        self.raises(BadKnown, {"index": 1, "what": "double"}, forms_of, EXAMPLE, "o", [1, 1, 0])
        self.raises(BadKnown, {"index": 2, "what": "double"}, forms_of, EXAMPLE, "o", (5, 6, 5, None))
        # It comes ahead of what does not follow.
        self.raises(BadKnown, {"index": 1, "what": "double"}, forms_of, EXAMPLE, "o", (5, 5))

    def test_lists_are_neither_kept_nor_changed(self):
        lot = [5, 1]
        forms = forms_of(EXAMPLE, "o", lot)
        self.assertEqual(lot, [5, 1])
        lot.append(3)
        self.assertEqual(forms, forms_of(EXAMPLE, "o", (5, 1)))

    def test_a_great_card(self):
        card = marked_card(*[STEEP] * 12)
        panels = letter_panels(card, "o")
        lot = [panel for panel in panels if panel in follow_of(card).rest]
        lot = [panel for k, panel in enumerate(lot) if k % 5]
        forms = forms_of(card, "o", lot)
        self.assertEqual((len(forms.rows), len(forms.lot), len(forms.conditions)), (61, 48, 0))
        self.assertEqual(freedom_of(card, "o"), 48)


class OfTest(Raises, unittest.TestCase):
    def test_other_numbers(self):
        forms = forms_of(EXAMPLE, "o", (1,))
        self.assertEqual(forms.of(3), (Ratio(-2),))
        for panel in (0, 2, 4, 7, 8, -1, 10 ** 20, *NO_NUMBERS):
            self.raises(BadKnown, {"index": 0, "what": "panel"}, forms.of, panel)


class CalledTest(Raises, unittest.TestCase):
    def test_motions_are_led_back_to_themselves(self):
        led = 0
        for card, letter, lot, forms in some_forms():
            panels = letter_panels(card, letter)
            for panel in panels:
                told = panel_motion(card, panel)
                if "rates" not in vars(told):
                    continue
                for times in (1, -7, MOST // max(map(abs, told.rates))):
                    rates = [times * rate for rate in told.rates]
                    found = forms([rates[each] for each in lot])
                    self.assertEqual(found, Led(letter, tuple(Ratio(rates[each]) for each in panels)))
                    led += 1
        self.assertGreater(led, 200)

    def test_any_rates(self):
        chance = random.Random(166)
        kinds = []
        for card, letter, lot, forms in some_forms():
            for most in (1, 3, MOST):
                rates = [chance.randrange(-most, most + 1) for _ in lot]
                totals = [(name, sum((fraction_of(ratio) * rate for ratio, rate in zip(ratios, rates)), Fraction(0)))
                          for name, ratios in forms.conditions]
                totals = [(name, total) for name, total in totals if total]
                found = forms(chance.choice((list, tuple))(rates))
                kinds.append(found.__class__)
                if totals:
                    self.assertIs(found.__class__, Clash)
                    self.assertEqual((found.name, fraction_of(found.total)), totals[0])
                    self.assertIs(found.total.__class__, Ratio)
                else:
                    self.assertIs(found.__class__, Led)
                    self.assertIs(found.rates.__class__, tuple)
                    self.assertEqual(found.letter, letter)
                    self.assertEqual(as_fractions(found.rates), [
                        sum((fraction_of(ratio) * rate for ratio, rate in zip(ratios, rates)), Fraction(0))
                        for _, ratios in forms.rows])
        self.assertGreater(min(kinds.count(Led), kinds.count(Clash)), 50)

    def test_rates_at_both_bounds(self):
        forms = forms_of(Card.of_words("dodododo"), "o", (1, 3))
        self.assertEqual(forms((MOST, -MOST)).rates, (Ratio(MOST), Ratio(-MOST), Ratio(0), Ratio(0)))
        self.assertEqual(forms([MOST, MOST]).rates[2], Ratio(-2 * MOST))
        for rate in (MOST + 1, -MOST - 1, 10 ** 30, *NO_NUMBERS, Anything()):
            self.raises(BadRates, {"index": 0, "what": "rate"}, forms, (rate, rate))
            self.raises(BadRates, {"index": 1, "what": "rate"}, forms, [MOST, rate])

    def test_wrong_rates(self):
        forms = forms_of(EXAMPLE, "o", (1,))
        for thing in (*NO_SEQUENCES, (), [], (1, 2), (None, None)):
            self.raises(BadRates, {"index": 0, "what": "rates"}, forms, thing)
        # The first condition counts, not the second one.
        self.assertEqual(forms((-2,)), Clash(("column", 1), Ratio(-4)))

    def test_lists_are_not_changed(self):
        rates = [5]
        forms_of(EXAMPLE, "o", (1,))(rates)
        self.assertEqual(rates, [5])


class EqualityTest(unittest.TestCase):
    def test_forms(self):
        forms = forms_of(EXAMPLE, "o", (1,))
        self.assertEqual(forms, forms_of(EXAMPLE, "o", [1]))
        parts = (forms.letter, forms.lot, forms.rows, forms.conditions)
        self.assertEqual(forms, Forms(*parts))
        for k, other in enumerate(("d", (3,), forms.rows[:1], ())):
            told = Forms(*parts[:k], other, *parts[k + 1:])
            self.assertFalse(forms == told)
            self.assertTrue(forms != told)
        for other in (parts, None, Led("o", forms.rows), Anything()):
            self.assertIs(forms.__eq__(other), False)

    def test_led_and_clash(self):
        led, clash = Led("o", (Ratio(1),)), Clash(("floor",), Ratio(1))
        self.assertEqual((led, clash), (Led("o", (Ratio(1),)), Clash(("floor",), Ratio(1))))
        for other in (Led("d", (Ratio(1),)), Led("o", (Ratio(2),)), Clash("o", (Ratio(1),)), None, ("o", (Ratio(1),))):
            self.assertFalse(led == other)
        for other in (Clash(("wall",), Ratio(1)), Clash(("floor",), Ratio(1, 2)), Led(("floor",), Ratio(1)), 1):
            self.assertFalse(clash == other)
        self.assertEqual((led.__eq__(Anything()), clash.__eq__(Anything())), (False, False))

    def test_arguments_are_kept_as_they_are(self):
        self.assertEqual(vars(Led(1, [2])), {"letter": 1, "rates": [2]})
        self.assertEqual(vars(Clash(1, [2])), {"name": 1, "total": [2]})
        self.assertEqual(vars(Forms(1, [2], None, {})), {"letter": 1, "lot": [2], "rows": None, "conditions": {}})
