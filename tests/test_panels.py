import unittest
from itertools import product

from helpers import NO_NUMBERS, Anything, Raises, all_words
from slitstairs.cards import Card
from slitstairs.errors import BadPlace, NoPanel
from slitstairs.panels import (
    Panel, crease_rows, floor_panel, hinge_pairs, hinges, letter_panels, panel_of, panel_table, panels_of, wall_panel)

EXAMPLE = Card.of_words("dddooo", "ddodoo", "dododo", marks=[(0, 1), (1, 3)])
TABLE = ((0, 0, 0, 1, 1, 1), (0, 0, 2, 3, 1, 1), (0, 4, 5, 6, 7, 1))
STEEP = "dodododododo"
PLAIN = "ddddddoooooo"
ALL_MARKS = [(c, t) for c in range(11) for t in range(1, 11)]


def slow_table(card):
    """The panels' numbers, found by going from cell to cell."""
    steps = 2 * card.size
    numbers = {}
    many = 0
    for cell in product(range(card.width), range(steps)):
        if cell in numbers:
            continue
        ways = [cell]
        while ways:
            c, t = ways.pop()
            if (c, t) in numbers:
                continue
            numbers[c, t] = many
            for near in (t - 1, t + 1):
                if 0 <= near < steps and card.words[c][near] == card.words[c][t]:
                    ways.append((c, near))
            if c > 0 and card.is_joined(c - 1, t):
                ways.append((c - 1, t))
            if c < card.width - 1 and card.is_joined(c, t):
                ways.append((c + 1, t))
        many += 1
    return tuple(tuple(numbers[c, t] for t in range(steps)) for c in range(card.width))


def some_cards():
    """Cards with and without marks of which each joins its columns in another way."""
    for words in product(all_words(3), repeat=3):
        yield Card.of_words(*words)
        yield Card.of_words(*words, marks=[(0, 1), (0, 4), (1, 2)])
    for words in product(all_words(4)[::3], repeat=2):
        yield Card.of_words(*words, words[0], marks=[(0, 3), (1, 1), (1, 6)])
    yield Card.of_words(*all_words(6)[::11])
    yield Card.of_words(*all_words(6)[60:72], marks=ALL_MARKS[::7])
    yield Card.of_words(*[STEEP] * 12, marks=ALL_MARKS)
    yield Card.of_words("do")


class PanelTableTest(Raises, unittest.TestCase):
    def test_example(self):
        self.assertEqual(panel_table(EXAMPLE), TABLE)
        self.assertEqual(letter_panels(EXAMPLE, "d"), (0, 3, 5, 7))
        self.assertEqual(letter_panels(EXAMPLE, "o"), (1, 2, 4, 6))
        self.assertEqual((wall_panel(EXAMPLE), floor_panel(EXAMPLE)), (0, 1))

    def test_least_and_greatest_cards(self):
        self.assertEqual(panel_table(Card.of_words("do")), ((0, 1),))
        self.assertEqual(panel_table(Card.of_words("do", "do")), ((0, 1), (0, 1)))
        self.assertEqual(panel_table(Card.of_words(PLAIN)), ((0,) * 6 + (1,) * 6,))
        self.assertEqual(panel_table(Card.of_words(STEEP)), (tuple(range(12)),))
        self.assertEqual(panel_table(Card.of_words(*[STEEP] * 12)), (tuple(range(12)),) * 12)
        table = panel_table(Card.of_words(*[STEEP] * 12, marks=ALL_MARKS))
        self.assertEqual([len(row) for row in table], [12] * 12)
        self.assertEqual(table[1], (0, *range(12, 22), 11))
        self.assertEqual(table[11], (0, *range(112, 122), 11))

    def test_a_run_is_one_panel_though_only_a_part_of_it_is_joined(self):
        card = Card.of_words("ddddoooo", "dddoodoo", "ddddoooo")
        self.assertEqual(card.joined(0), (0, 1, 2, 6, 7))
        self.assertEqual(panel_table(card), ((0,) * 4 + (1,) * 4, (0, 0, 0, 2, 2, 3, 1, 1), (0,) * 4 + (1,) * 4))

    def test_marks_part_panels(self):
        words = ("doddoo", "doddoo", "doddoo")
        self.assertEqual(panel_table(Card.of_words(*words)), ((0, 1, 2, 2, 3, 3),) * 3)
        card = Card.of_words(*words, marks=[(0, 1), (1, 2)])
        self.assertEqual(panel_table(card), ((0, 1, 2, 2, 3, 3), (0, 4, 2, 2, 3, 3), (0, 4, 2, 2, 3, 3)))
        card = Card.of_words(*words, marks=[(0, 1), (1, 2), (1, 3), (1, 4)])
        self.assertEqual(panel_table(card), ((0, 1, 2, 2, 3, 3), (0, 4, 2, 2, 3, 3), (0, 4, 5, 5, 3, 3)))

    def test_cells_that_meet_at_a_corner_alone_do_not_hang_together(self):
        self.assertEqual(panel_table(Card.of_words("ddoo", "dodo")), ((0, 0, 1, 1), (0, 2, 3, 1)))

    def test_all_cards_against_going_from_cell_to_cell(self):
        for card in some_cards():
            self.assertEqual(panel_table(card), slow_table(card))

    def test_panel_of(self):
        for c, row in enumerate(TABLE):
            for t, number in enumerate(row):
                self.assertEqual(panel_of(EXAMPLE, c, t), number)

    def test_no_place(self):
        for c in (*NO_NUMBERS, -1, 3):
            with self.subTest(c):
                self.raises(BadPlace, {"column": c, "step": 1}, panel_of, EXAMPLE, c, 1)
                self.raises(BadPlace, {"column": c, "step": None}, panel_of, EXAMPLE, c, None)
        for t in (*NO_NUMBERS, -1, 6):
            with self.subTest(t):
                self.raises(BadPlace, {"column": 1, "step": t}, panel_of, EXAMPLE, 1, t)


class PanelsTest(unittest.TestCase):
    def test_example(self):
        panels = panels_of(EXAMPLE)
        self.assertEqual([panel.number for panel in panels], list(range(8)))
        self.assertEqual([panel.letter for panel in panels], ["d", "o", "o", "d", "o", "d", "o", "d"])
        self.assertEqual([panel.plane for panel in panels], [0, 0, 1, 1, 2, 1, 1, 2])
        self.assertEqual(panels[0].cells, ((0, 0), (0, 1), (0, 2), (1, 0), (1, 1), (2, 0)))
        self.assertEqual(panels[0].columns, (0, 1, 2))
        self.assertEqual((panels[3].cells, panels[3].columns), (((1, 3),), (1,)))

    def test_planes_of_the_example_as_the_document_tells(self):
        planes = {panel.number: (panel.letter, panel.plane) for panel in panels_of(EXAMPLE)}
        self.assertEqual([planes[k] for k in (2, 6, 3, 5, 4, 7)],
                         [("o", 1), ("o", 1), ("d", 1), ("d", 1), ("o", 2), ("d", 2)])

    def test_what_holds_for_all_panels(self):
        for card in some_cards():
            panels = panels_of(card)
            table = panel_table(card)
            self.assertEqual(panels.__class__, tuple)
            self.assertEqual(sorted(cell for panel in panels for cell in panel.cells),
                             list(product(range(card.width), range(2 * card.size))))
            self.assertEqual((wall_panel(card), floor_panel(card)), (0, table[0][-1]))
            for number, panel in enumerate(panels):
                self.assertEqual(panel.number, number)
                self.assertEqual((panel.cells.__class__, panel.columns.__class__), (tuple, tuple))
                self.assertEqual(panel.cells, tuple(sorted(panel.cells)))
                self.assertEqual({table[c][t] for c, t in panel.cells}, {number})
                self.assertEqual({card.words[c][t] for c, t in panel.cells}, {panel.letter})
                places = [card.columns[c].place(t) for c, t in panel.cells]
                self.assertEqual({x if panel.letter == "d" else y for x, y in places}, {panel.plane})
                self.assertEqual(panel.plane == 0, number in (0, floor_panel(card)))
                self.assertEqual(panel.columns, tuple(sorted({c for c, t in panel.cells})))
                self.assertEqual(panel.columns, tuple(range(panel.columns[0], panel.columns[-1] + 1)))
                self.assertIn(number, letter_panels(card, panel.letter))
            for letter in ("d", "o"):
                numbers = letter_panels(card, letter)
                self.assertEqual(numbers, tuple(k for k, panel in enumerate(panels) if panel.letter == letter))

    def test_floor_of_a_steep_column(self):
        self.assertEqual(floor_panel(Card.of_words(STEEP, PLAIN)), 11)

    def test_equality(self):
        self.assertTrue(panels_of(EXAMPLE) == panels_of(EXAMPLE))
        panel = Panel(3, "d", ((1, 3),), 1, (1,))
        self.assertTrue(panel == panels_of(EXAMPLE)[3])
        self.assertFalse(panel != panels_of(EXAMPLE)[3])
        others = (Panel(2, "d", ((1, 3),), 1, (1,)), Panel(3, "o", ((1, 3),), 1, (1,)),
                  Panel(3, "d", ((1, 2),), 1, (1,)), Panel(3, "d", ((1, 3),), 2, (1,)),
                  Panel(3, "d", ((1, 3),), 1, (2,)), Anything(), None, 3, EXAMPLE)
        for other in others:
            self.assertIs(panel == other, False)
        self.assertIn("__eq__", vars(Panel))


class CreasesTest(Raises, unittest.TestCase):
    def test_example(self):
        self.assertEqual(crease_rows(EXAMPLE), (
            (0, 3, "hollow", 0, 1),
            (1, 2, "hollow", 0, 2), (1, 3, "ridge", 2, 3), (1, 4, "hollow", 3, 1),
            (2, 1, "hollow", 0, 4), (2, 2, "ridge", 4, 5), (2, 3, "hollow", 5, 6),
            (2, 4, "ridge", 6, 7), (2, 5, "hollow", 7, 1)))
        self.assertEqual(hinge_pairs(EXAMPLE),
                         ((0, 1), (0, 2), (0, 4), (2, 3), (3, 1), (4, 5), (5, 6), (6, 7), (7, 1)))
        self.assertEqual((hinges(EXAMPLE, 2, 3), hinges(EXAMPLE, 3, 2), hinges(EXAMPLE, 0, 0)), (((1, 3),), (), ()))

    def test_hinges_in_several_columns(self):
        card = Card.of_words("dddooo", "dddooo", "ddodoo", "dddooo")
        self.assertEqual(hinges(card, 0, 1), ((0, 3), (1, 3), (3, 3)))
        self.assertEqual(hinge_pairs(card), ((0, 1), (0, 2), (2, 3), (3, 1)))

    def test_least_card(self):
        card = Card.of_words("do")
        self.assertEqual((crease_rows(card), hinge_pairs(card)), (((0, 1, "hollow", 0, 1),), ((0, 1),)))

    def test_what_holds_for_all_creases(self):
        for card in some_cards():
            table = panel_table(card)
            rows = [(c, t, kind, table[c][t - 1], table[c][t])
                    for c, column in enumerate(card) for t, kind in column.creases]
            self.assertEqual(crease_rows(card), tuple(rows))
            pairs = tuple(sorted({row[3:] for row in rows}))
            self.assertEqual(hinge_pairs(card), pairs)
            for ahead, behind in pairs[:4]:
                places = tuple(row[:2] for row in rows if row[3:] == (ahead, behind))
                self.assertEqual(hinges(card, ahead, behind), places)

    def test_no_panel(self):
        for number in (*NO_NUMBERS, -1, 8, 10 ** 20):
            with self.subTest(number):
                self.raises(NoPanel, {"number": number}, hinges, EXAMPLE, number, 0)
                self.raises(NoPanel, {"number": number}, hinges, EXAMPLE, number, -7)
                self.raises(NoPanel, {"number": number}, hinges, EXAMPLE, 7, number)
