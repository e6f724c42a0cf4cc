import random
import unittest
from fractions import Fraction

from helpers import NO_NUMBERS, NO_SEQUENCES, Anything, Raises, fraction_of, heights_of, is_lowest, slow_rank
from slitstairs.allcards import all_cards, card_at, how_many_cards
from slitstairs.cards import Card
from slitstairs.columns import Column
from slitstairs.equations import equation_rows
from slitstairs.errors import BadRates, NoPanel, NotGeared
from slitstairs.motions import (
    Apart, Geared, OnlyOpens, Still, Sways, freedom_of, gear_of, loosening_cells, motion_fault, motion_of, only_opens,
    opening_rates, panel_motion, speed_table, still_panels)
from slitstairs.panels import floor_panel, letter_panels, panel_table, panels_of
from slitstairs.ratios import Ratio

LONE = Card.of_words("dododo")
PAIR = Card.of_words("dododo", "ddoodo")
OTHER = {"d": "o", "o": "d"}


def joined_cells(card):
    for c in range(card.width - 1):
        left, right = heights_of(card.words[c]), heights_of(card.words[c + 1])
        for t, letter in enumerate(card.words[c]):
            if letter == card.words[c + 1][t] and left[t] == right[t] and (c, t) not in card.marks:
                yield c, t


def cell_rows(card, letter):
    """The rates that fit together, told cell by cell without panels: rows over the cells of a letter."""
    cells = [(c, t) for c, word in enumerate(card.words) for t in range(len(word)) if word[t] == letter]

    def row(*factors):
        found = [0] * len(cells)
        for cell, factor in factors:
            found[cells.index(cell)] += factor
        return found

    def ahead(c, t, factor):
        return [((c, k), factor) for k in range(t) if card.words[c][k] == letter]

    steps = 2 * card.size
    rows = [row((cells[0] if letter == "d" else cells[-1], 1))]
    for c, t in cells:
        if (c, t + 1) in cells:
            rows.append(row(((c, t), 1), ((c, t + 1), -1)))
    for c in range(card.width):
        rows.append(row(*ahead(c, steps, 1)))
    for c, t in joined_cells(card):
        rows.append(row(*ahead(c, t, 1), *ahead(c + 1, t, -1)))
        if (c, t) in cells:
            rows.append(row(((c, t), 1), ((c + 1, t), -1)))
    return cells, rows


def slow_freedom(card, letter):
    cells, rows = cell_rows(card, letter)
    return len(cells) - slow_rank(rows)


def is_motion(card, rates):
    """By the speeds of the boundaries: the sheet holds together and the boards do not turn."""
    table = panel_table(card)
    speeds = []
    for c, word in enumerate(card.words):
        row = [(0, 0)]
        for t, letter in enumerate(word):
            out, down = row[-1]
            rate = rates[table[c][t]]
            row.append((out + rate, down) if letter == "o" else (out, down + rate))
        speeds.append(row)
    return (rates[0] == rates[table[0][-1]] == 0
            and all(row[-1] == (0, 0) for row in speeds)
            and all(speeds[c][k] == speeds[c + 1][k] for c, t in joined_cells(card) for k in (t, t + 1)))


def small_cards():
    for size, width in ((1, 1), (1, 3), (2, 1), (2, 2), (2, 3), (3, 1), (3, 2), (4, 1), (5, 1)):
        yield from all_cards(size, width)


def marked_cards():
    """Some cards of all sizes with marks that count and marks that do not."""
    chance = random.Random(47)
    for size in range(2, 7):
        for width in (2, 3, 5):
            for _ in range(6):
                card = card_at(size, width, chance.randrange(how_many_cards(size, width)))
                words = [chance.choice([card.words[c], card.words[max(c - 1, 0)]]) for c in range(width)]
                places = [(c, t) for c in range(width - 1) for t in range(1, 2 * size - 1)]
                yield Card.of_words(*words, marks=chance.sample(places, chance.randrange(1, len(places))))


def all_kinds():
    yield from small_cards()
    yield from marked_cards()


def great_cards():
    chance = random.Random(612)
    for _ in range(3):
        card = card_at(6, 12, chance.randrange(how_many_cards(6, 12)))
        yield card
        yield card.with_marks([(c, t) for c in range(11) for t in range(1, 11) if chance.randrange(3) == 0])
    yield Card.of_words(*["dododododo" + "do"] * 12, marks=[(c, t) for c in range(11) for t in range(1, 11)])
    yield Card.of_words(*["dddddd" + "oooooo"] * 12)


class Adding(Raises, unittest.TestCase):
    """Adds up what is told, without the judge."""

    def adds_up(self, card, letter, combination, wanted):
        equations = equation_rows(card, letter)
        self.assertEqual((combination.__class__, len(combination)), (tuple, len(equations)))
        sums = {panel: Fraction(0) for panel in range(len(panels_of(card)))}
        for ratio, equation in zip(combination, equations):
            self.assertIs(ratio.__class__, Ratio)
            for panel, factor in equation.factors:
                sums[panel] += factor * fraction_of(ratio)
        self.assertEqual({panel: total for panel, total in sums.items() if total}, wanted)

    def sways(self, card, letter, rates):
        self.assertIs(rates.__class__, tuple)
        self.assertEqual(len(rates), len(panels_of(card)))
        self.assertTrue(is_lowest(rates))
        for panel in letter_panels(card, OTHER[letter]):
            self.assertEqual(rates[panel], 0)
        self.assertTrue(is_motion(card, rates))


class MotionOfTest(Adding):
    def motion(self, card):
        told = motion_of(card)
        if told.__class__ is OnlyOpens:
            self.assertEqual(list(vars(told)), ["combinations"])
            self.assertEqual(len(told.combinations), len(panels_of(card)))
            for panel in panels_of(card):
                self.adds_up(card, panel.letter, told.combinations[panel.number], {panel.number: 1})
        else:
            self.assertIs(told.__class__, Sways)
            self.assertEqual(list(vars(told)), ["letter", "rates"])
            self.sways(card, told.letter, told.rates)
        self.assertIsNone(motion_fault(card, told))
        return told.__class__

    def test_the_examples(self):
        self.assertEqual((freedom_of(LONE, "o"), freedom_of(LONE, "d"), only_opens(LONE), still_panels(LONE)),
                         (1, 1, False, (0, 5)))
        self.assertEqual(str(gear_of(LONE, 1, 3).ratio), "-1")
        self.assertEqual((only_opens(PAIR), motion_fault(PAIR, motion_of(PAIR)), loosening_cells(PAIR)),
                         (True, None, ((0, 3),)))
        self.assertEqual(speed_table(LONE, [0, 1, 0, -1, 0, 0]),
                         (((0, 0), (0, 0), (1, 0), (1, 0), (0, 0), (0, 0), (0, 0)),))
        self.assertEqual((self.motion(LONE), self.motion(PAIR)), (Sways, OnlyOpens))

    def test_the_least_card(self):
        card = Card.of_words("do")
        self.assertIs(self.motion(card), OnlyOpens)
        self.assertEqual((freedom_of(card, "o"), freedom_of(card, "d"), still_panels(card)), (0, 0, (0, 1)))

    def test_freedoms_cell_by_cell(self):
        for card in all_kinds():
            freedoms = [freedom_of(card, letter) for letter in "od"]
            self.assertEqual(freedoms, [slow_freedom(card, letter) for letter in "od"])
            self.assertIs(only_opens(card), freedoms == [0, 0])
            self.assertIs(self.motion(card), OnlyOpens if freedoms == [0, 0] else Sways)

    def test_a_card_that_sways_by_one_letter_alone(self):
        kinds = {(freedom_of(card, "o") > 0, freedom_of(card, "d") > 0): card for card in all_kinds()}
        self.assertEqual(motion_of(kinds[True, False]).letter, "o")
        self.assertEqual(motion_of(kinds[False, True]).letter, "d")

    def test_greatest_cards(self):
        kinds = {self.motion(card) for card in great_cards()}
        self.assertEqual(kinds, {OnlyOpens, Sways})

    def test_a_stuck_card_that_only_opens(self):
        self.assertIs(self.motion(Card.of_words("ddoododo", "dododdoo")), OnlyOpens)

    def test_results_keep_what_they_are_passed(self):
        self.assertEqual(vars(OnlyOpens(((1, 2), None))), {"combinations": ((1, 2), None)})
        self.assertEqual(vars(Sways("x", None)), {"letter": "x", "rates": None})
        self.assertEqual(vars(Still(3)), {"combination": 3})
        self.assertEqual(vars(Geared(1, "y")), {"ratio": 1, "combination": "y"})
        self.assertEqual(vars(Apart((1,), (2,))), {"first": (1,), "second": (2,)})

    def test_results_keep_sequences_as_tuples(self):
        rates = [1, 2]
        told = (Sways("d", rates), Apart(rates, rates), OnlyOpens([rates, (3,)]))
        rates.append(3)
        self.assertEqual((told[0].rates, told[1].first, told[1].second, told[2].combinations),
                         ((1, 2), (1, 2), (1, 2), ((1, 2), (3,))))


class MotionFaultTest(unittest.TestCase):
    def setUp(self):
        self.right = motion_of(PAIR).combinations

    def opens(self, combinations, card=PAIR):
        return motion_fault(card, OnlyOpens(combinations))

    def sways(self, letter, rates, card=LONE):
        return motion_fault(card, Sways(letter, rates))

    def spoilt(self, panel, thing):
        return (*self.right[:panel], thing, *self.right[panel + 1:])

    def test_other_right_results(self):
        # The empty equations at index 3 may be taken as often as one likes.
        row = (*self.right[1][:3], Ratio(5, 7), *self.right[1][4:])
        self.assertIsNone(self.opens(self.spoilt(1, row)))
        self.assertIsNone(self.sways("o", (0, 1, 0, -1, 0, 0)))
        self.assertIsNone(self.sways("d", (0, 0, 1, 0, -1, 0)))

    def test_panels(self):
        for combinations in ((), self.right[:-1], (*self.right, self.right[0])):
            self.assertEqual(self.opens(combinations), "panels")
        self.assertEqual(self.opens(None), "panels")
        self.assertEqual(self.opens(((),)), "panels")

    def test_ratios(self):
        for panel, row in enumerate(self.right):
            for place in range(len(row)):
                for thing in (*NO_NUMBERS, 0, 1, Fraction(1), Anything()):
                    spoilt = (*row[:place], thing, *row[place + 1:])
                    self.assertEqual(self.opens(self.spoilt(panel, spoilt)), "ratios")
            for thing in ((), row[:-1], (*row, Ratio(0)), None, 7, "ratios!"):
                self.assertEqual(self.opens(self.spoilt(panel, thing)), "ratios")

    def test_sum(self):
        for panel, row in enumerate(self.right):
            factors = [equation.factors for equation in equation_rows(PAIR, panels_of(PAIR)[panel].letter)]
            for place in range(len(row)):
                spoilt = (*row[:place], row[place] + Ratio(1, 3), *row[place + 1:])
                self.assertEqual(self.opens(self.spoilt(panel, spoilt)), "sum" if factors[place] else None)
            self.assertEqual(self.opens(self.spoilt(panel, tuple(ratio + ratio for ratio in row))), "sum")
            self.assertEqual(self.opens(self.spoilt(panel, tuple(-ratio for ratio in row))), "sum")
            self.assertEqual(self.opens(self.spoilt(panel, (Ratio(0),) * len(row))), "sum")
            self.assertEqual(self.opens(self.spoilt(panel, self.right[panel - 2])), "sum")

    def test_a_combination_that_adds_up_to_this_panel_and_another_one(self):
        row = tuple(one + other for one, other in zip(self.right[1], self.right[3]))
        self.assertEqual(self.opens(self.spoilt(1, row)), "sum")

    def test_panel_by_panel(self):
        zero = (Ratio(0),) * len(self.right[0])
        for one in range(len(self.right)):
            for other in range(one + 1, len(self.right)):
                two = list(self.spoilt(one, zero))
                two[other] = (None,)
                self.assertEqual(self.opens(tuple(two)), "sum")
                two[one], two[other] = (None,), zero
                self.assertEqual(self.opens(tuple(two)), "ratios")
                self.assertEqual(self.opens((*two, zero)), "panels")

    def test_a_card_that_sways_has_no_combinations(self):
        rows = tuple((Ratio(1), Ratio(0)) for _ in range(6))
        self.assertEqual(self.opens(rows, LONE), "sum")

    def test_letter(self):
        for letter in (*NO_NUMBERS, "D", "do", "x", ["d"], ("o",), Anything()):
            self.assertEqual(self.sways(letter, (0, 1, 0, -1, 0, 0)), "letter")
            self.assertEqual(self.sways(letter, None), "letter")

    def test_rates(self):
        for place in range(6):
            for thing in (*NO_NUMBERS, Ratio(0), Anything()):
                rates = [0, 1, 0, -1, 0, 0]
                rates[place] = thing
                self.assertEqual(self.sways("o", tuple(rates)), "rates")
        for rates in ((), (0, 1, 0, -1, 0), (0, 1, 0, -1, 0, 0, 0), None, 6, "010100"):
            self.assertEqual(self.sways("o", rates), "rates")

    def test_other(self):
        for place in (0, 2, 4):
            rates = [0, 1, 0, -1, 0, 0]
            rates[place] = -3
            self.assertEqual(self.sways("o", tuple(rates)), "other")
        self.assertEqual(self.sways("d", (0, 1, 0, -1, 0, 0)), "other")
        self.assertEqual(self.sways("o", (0, 2, 0, -2, 4, 0)), "other")
        self.assertEqual(self.sways("o", (0, 0, 1, 0, 0, 0)), "other")

    def test_lowest(self):
        for rates in ((0, 0, 0, 0, 0, 0), (0, 2, 0, -2, 0, 0), (0, -1, 0, 1, 0, 0), (0, 0, 0, -1, 0, 0),
                      (0, 0, 0, 0, 0, 7), (0, 3, 0, 3, 0, 0)):
            self.assertEqual(self.sways("o", rates), "lowest")

    def test_equation(self):
        for rates in ((0, 1, 0, 0, 0, 0), (0, 1, 0, 1, 0, 0), (0, 1, 0, -1, 0, 1), (0, 1, 0, -2, 0, 1),
                      (0, 0, 0, 1, 0, -1)):
            self.assertEqual(self.sways("o", rates), "equation")
        self.assertEqual(self.sways("d", (1, 0, -1, 0, 0, 0)), "equation")
        self.assertEqual(self.sways("o", (0, 1, 0, -1, 0, 0), PAIR), "equation")

    def test_papers_of_all_kinds_spoilt_in_one_place(self):
        for card in marked_cards():
            told = motion_of(card)
            if told.__class__ is Sways:
                letters = [panel.letter for panel in panels_of(card)]
                for panel, rate in enumerate(told.rates):
                    rates = list(told.rates)
                    rates[panel] = rate + 1
                    found = motion_fault(card, Sways(told.letter, tuple(rates)))
                    if letters[panel] != told.letter:
                        self.assertEqual(found, "other")
                    elif not is_lowest(rates):
                        self.assertEqual(found, "lowest")
                    else:
                        self.assertEqual(found, None if is_motion(card, rates) else "equation")


class PanelsTest(Adding):
    def test_panel_motion(self):
        for card in all_kinds():
            still = []
            for panel in panels_of(card):
                told = panel_motion(card, panel.number)
                if told.__class__ is Still:
                    self.assertEqual(list(vars(told)), ["combination"])
                    self.adds_up(card, panel.letter, told.combination, {panel.number: 1})
                    still.append(panel.number)
                else:
                    self.assertEqual((told.__class__, told.letter), (Sways, panel.letter))
                    self.sways(card, told.letter, told.rates)
                    self.assertNotEqual(told.rates[panel.number], 0)
            self.assertEqual(still_panels(card), tuple(still))
            self.assertLessEqual({0, floor_panel(card)}, set(still))
            self.assertEqual(only_opens(card), len(still) == len(panels_of(card)))

    def test_greatest_cards(self):
        for card in great_cards():
            still = still_panels(card)
            for panel in panels_of(card)[::9]:
                told = panel_motion(card, panel.number)
                self.assertEqual(told.__class__ is Still, panel.number in still)

    def test_no_panel(self):
        for thing in (*NO_NUMBERS, -1, 6, 10 ** 20):
            self.raises(NoPanel, {"number": thing}, panel_motion, LONE, thing)
            self.raises(NoPanel, {"number": thing}, gear_of, LONE, thing, None)
            self.raises(NoPanel, {"number": thing}, gear_of, LONE, 0, thing)


class GearOfTest(Adding):
    def gear(self, card, one, other):
        """What is told of two panels of a letter of which the second one is not still."""
        letter = panels_of(card)[one].letter
        told = gear_of(card, one, other)
        if told.__class__ is Geared:
            self.assertEqual((list(vars(told)), told.ratio.__class__), (["ratio", "combination"], Ratio))
            wanted = {}
            for panel, factor in ((one, Fraction(1)), (other, -fraction_of(told.ratio))):
                wanted[panel] = wanted.get(panel, 0) + factor
            self.adds_up(card, letter, told.combination, {panel: factor for panel, factor in wanted.items() if factor})
            if one == other:
                self.assertEqual(told.ratio, Ratio(1))
        else:
            self.assertEqual((told.__class__, list(vars(told))), (Apart, ["first", "second"]))
            self.sways(card, letter, told.first)
            self.sways(card, letter, told.second)
            self.assertNotEqual(told.first[one] * told.second[other], told.first[other] * told.second[one])
        return told

    def test_the_example(self):
        self.assertEqual(str(self.gear(LONE, 1, 3).ratio), "-1")
        self.assertEqual(str(self.gear(LONE, 4, 2).ratio), "-1")

    def test_a_panel_with_itself(self):
        for panel in (1, 2, 3, 4):
            told = self.gear(LONE, panel, panel)
            self.assertEqual((str(told.ratio), len(told.combination)), ("1", 2))

    def test_a_still_panel_and_one_that_turns(self):
        told = self.gear(LONE, 5, 1)
        self.assertEqual((str(told.ratio), [str(ratio) for ratio in told.combination]), ("0", ["1", "0"]))

    def test_a_ratio_that_is_no_whole_number(self):
        fractions = {str(gear_of(each, one, other).ratio)
                     for each in all_cards(4, 1) for one in letter_panels(each, "o")
                     for other in letter_panels(each, "o") if other not in still_panels(each)
                     and gear_of(each, one, other).__class__ is Geared}
        self.assertLessEqual({"-1/2", "-2", "1", "0", "-1"}, fractions)

    def test_panels_apart(self):
        told = self.gear(Card.of_words("dodododo"), 1, 3)
        self.assertIs(told.__class__, Apart)

    def test_all_pairs(self):
        kinds = {Geared: 0, Apart: 0, "letter": 0, "still": 0}
        for card in [*all_cards(3, 2), *all_cards(4, 1), *all_cards(5, 1), *list(marked_cards())[:60:3]]:
            panels, still = panels_of(card), still_panels(card)
            for one in panels:
                for other in panels:
                    told = {"one": one.number, "other": other.number}
                    if one.letter != other.letter:
                        self.raises(NotGeared, {**told, "what": "letter"}, gear_of, card, one.number, other.number)
                        kinds["letter"] += 1
                    elif other.number in still:
                        self.raises(NotGeared, {**told, "what": "still"}, gear_of, card, one.number, other.number)
                        kinds["still"] += 1
                    else:
                        kinds[self.gear(card, one.number, other.number).__class__] += 1
        self.assertGreater(min(kinds.values()), 20)


class SpeedTableTest(Adding):
    def test_speeds(self):
        card = Card.of_words("ddoo", "dodo")
        self.assertEqual(panel_table(card), ((0, 0, 1, 1), (0, 2, 3, 1)))
        self.assertEqual(speed_table(card, (1, 10, 100, 1000)),
                         (((0, 0), (0, 1), (0, 2), (10, 2), (20, 2)), ((0, 0), (0, 1), (100, 1), (100, 1001), (110, 1001))))
        for card in all_kinds():
            table = speed_table(card, list(range(len(panels_of(card)))))
            numbers = panel_table(card)
            for c, word in enumerate(card.words):
                sums = tuple(tuple(sum(numbers[c][t] for t in range(boundary) if word[t] == letter) for letter in "od")
                             for boundary in range(len(word) + 1))
                self.assertEqual(table[c], sums)
            self.assertEqual({part.__class__ for part in (table, *table, table[0][0])}, {tuple})

    def test_opening_rates(self):
        self.assertEqual(opening_rates(LONE), (1, 0, 1, 0, 1, 0))
        for card in all_kinds():
            rates = opening_rates(card)
            self.assertEqual(rates, tuple(int(panel.letter == "d") for panel in panels_of(card)))
            # The movement is that of the boundaries over the floor: each one moves by the steps down ahead of it.
            for row, word in zip(speed_table(card, rates), card.words):
                self.assertEqual(row, tuple((0, word[:t].count("d")) for t in range(len(word) + 1)))

    def test_wrong_rates(self):
        for thing in (*NO_SEQUENCES, (), [], (0,) * 5, [0] * 7, "000000", (None,) * 7):
            self.raises(BadRates, {"index": 0, "what": "rates"}, speed_table, LONE, thing)
        for index in range(6):
            for thing in (*NO_NUMBERS, Ratio(1), Anything()):
                rates = [0] * index + [thing] + [None] * (5 - index)
                self.raises(BadRates, {"index": index, "what": "rate"}, speed_table, LONE, rates)
                self.raises(BadRates, {"index": index, "what": "rate"}, speed_table, LONE, tuple(rates))


class LooseningTest(unittest.TestCase):
    def test_all_joined_cells_one_by_one(self):
        for card in all_kinds():
            before = slow_freedom(card, "o") + slow_freedom(card, "d")
            found = []
            for c, t in joined_cells(card):
                if 0 < t < 2 * card.size - 1:
                    marked = card.with_marks([(c, t)])
                    if freedom_of(marked, "o") + freedom_of(marked, "d") > before:
                        found.append((c, t))
            self.assertEqual(loosening_cells(card), tuple(found))

    def test_some(self):
        self.assertEqual(loosening_cells(LONE), ())
        # As cell 3 is slit, cell 4 carries alone.
        self.assertEqual(loosening_cells(PAIR.with_marks([(0, 3)])), ((0, 4),))
        self.assertEqual(loosening_cells(PAIR.with_marks([(0, 3), (0, 4)])), ())
        # Two neighbours bear the left column; either one would do alone.
        self.assertEqual(loosening_cells(Card.of_words("ddoodo", "dododo", "ddoodo")), ())


class WhatFollowsTest(unittest.TestCase):
    def freedoms(self, card):
        return (freedom_of(card, "o"), freedom_of(card, "d"))

    def test_motions_by_their_speeds(self):
        chance = random.Random(413)
        seen = set()
        for card in all_kinds():
            told = motion_of(card)
            for rates in (told.rates if told.__class__ is Sways else None, [0] * len(panels_of(card)),
                          [chance.randint(-1, 1) for _ in panels_of(card)]):
                if rates is not None:
                    by_rows = all(equation(rates) == 0 for letter in "od" for equation in equation_rows(card, letter))
                    self.assertEqual(is_motion(card, rates), by_rows)
                    table = speed_table(card, rates)
                    by_speeds = (rates[0] == rates[floor_panel(card)] == 0 and all(row[-1] == (0, 0) for row in table)
                                 and all(table[c][t:t + 2] == table[c + 1][t:t + 2] for c, t in joined_cells(card)))
                    self.assertEqual(by_speeds, by_rows)
                    seen.add(by_rows)
        self.assertEqual(seen, {True, False})

    def test_a_further_mark(self):
        for card in all_kinds():
            outs, downs = self.freedoms(card)
            common = set(joined_cells(card.unmarked()))
            for c in range(card.width - 1):
                for t in range(1, 2 * card.size - 1):
                    if (c, t) not in card.marks:
                        marked = card.with_marks([(c, t)])
                        found = self.freedoms(marked)
                        self.assertTrue(found[0] >= outs and found[1] >= downs)
                        if (c, t) not in common:
                            self.assertEqual(found, (outs, downs))
                            self.assertEqual((panel_table(marked), still_panels(marked)),
                                             (panel_table(card), still_panels(card)))

    def test_a_column_that_stands_twice_beside_itself(self):
        for card in all_kinds():
            for c in range(0, card.width, 2):
                twice = card.part(0, c).beside(card.part(c, card.width - 1))
                self.assertEqual(self.freedoms(twice), self.freedoms(card))
                # Panels keep their numbers if the second column has no panel of its own.
                self.assertEqual(still_panels(twice), still_panels(card))
                told = motion_of(card)
                if told.__class__ is Sways:
                    self.assertIsNone(motion_fault(twice, told))

    def test_cards_that_hang_together_by_the_boards_alone(self):
        cards = [*all_cards(3, 2), *[card for card in marked_cards() if card.width == 2 and card.size == 3]]
        for one, other in zip(cards, cards[5:] + cards[:5]):
            card = one.beside(other, slits=[1, 2, 3, 4])
            self.assertEqual(self.freedoms(card),
                             tuple(a + b for a, b in zip(self.freedoms(one), self.freedoms(other))))

    def test_one_column(self):
        for size in range(1, 7):
            for card in all_cards(size, 1):
                hollows = card.words[0].count("do")
                free = 0 if hollows == 1 else hollows - 2
                self.assertEqual(self.freedoms(card), (free, free))

    def test_mirroring_and_turning(self):
        for card in all_kinds():
            self.assertEqual(self.freedoms(card.mirrored()), self.freedoms(card)[::-1])
            self.assertEqual(self.freedoms(card.turned()), self.freedoms(card))
        self.assertEqual(Card([Column("ddoodo")]).mirrored().words, ("doddoo",))
