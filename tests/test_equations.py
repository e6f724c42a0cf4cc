import unittest

from helpers import Anything, heights_of
from slitstairs.allcards import all_cards
from slitstairs.cards import Card
from slitstairs.equations import Equation, equation_rows
from slitstairs.panels import panel_table, panels_of

LONE = Card.of_words("dododo")
PAIR = Card.of_words("dododo", "ddoodo")


def slow_rows(card, letter):
    """The equations as (name, factors), by a count of every panel in every one."""
    panels = panels_of(card)
    words, table = card.words, panel_table(card)
    steps = len(words[0])

    def ahead(c, t, panel):
        return sum(1 for k in range(t) if words[c][k] == letter and table[c][k] == panel.number)

    def row(name, count):
        factors = [(panel.number, count(panel)) for panel in panels if panel.letter == letter]
        return (name, tuple(pair for pair in factors if pair[1] != 0))

    edge = table[0][-1 if letter == "o" else 0]
    rows = [row(("floor",) if letter == "o" else ("wall",), lambda panel: int(panel.number == edge))]
    for c in range(len(words)):
        rows.append(row(("column", c), lambda panel: ahead(c, steps, panel)))
    for c in range(len(words) - 1):
        left, right = heights_of(words[c]), heights_of(words[c + 1])
        for t in range(steps):
            if words[c][t] == words[c + 1][t] and left[t] == right[t] and (c, t) not in card.marks:
                rows.append(row(("cell", c, t), lambda panel: ahead(c, t, panel) - ahead(c + 1, t, panel)))
    return rows


def told(rows):
    return [(row.name, row.factors) for row in rows]


class EquationRowsTest(unittest.TestCase):
    def test_the_first_example(self):
        self.assertEqual(told(equation_rows(LONE, "o")),
                         [(("floor",), ((5, 1),)), (("column", 0), ((1, 1), (3, 1), (5, 1)))])
        self.assertEqual(told(equation_rows(LONE, "d")),
                         [(("wall",), ((0, 1),)), (("column", 0), ((0, 1), (2, 1), (4, 1)))])

    def test_the_second_example(self):
        self.assertEqual([row.factors for row in equation_rows(PAIR, "o")],
                         [((5, 1),), ((1, 1), (3, 1), (5, 1)), ((3, 2), (5, 1)), (), ((1, 1), (3, -1)),
                          ((1, 1), (3, -1)), ((1, 1), (3, -1))])
        self.assertEqual([row.name for row in equation_rows(PAIR, "o")],
                         [("floor",), ("column", 0), ("column", 1), ("cell", 0, 0), ("cell", 0, 3), ("cell", 0, 4),
                          ("cell", 0, 5)])
        self.assertEqual(told(equation_rows(PAIR, "d")),
                         [(("wall",), ((0, 1),)), (("column", 0), ((0, 1), (2, 1), (4, 1))),
                          (("column", 1), ((0, 2), (4, 1))), (("cell", 0, 0), ()), (("cell", 0, 3), ((0, -1), (2, 1))),
                          (("cell", 0, 4), ((0, -1), (2, 1))), (("cell", 0, 5), ((0, -1), (2, 1)))])

    def test_the_least_card(self):
        card = Card.of_words("do")
        self.assertEqual(told(equation_rows(card, "o")), [(("floor",), ((1, 1),)), (("column", 0), ((1, 1),))])
        self.assertEqual(told(equation_rows(card, "d")), [(("wall",), ((0, 1),)), (("column", 0), ((0, 1),))])

    def test_like_panels_are_added_and_zeros_left_out(self):
        card = Card.of_words("ddoodo", "ddoodo")
        self.assertEqual(told(equation_rows(card, "o")),
                         [(("floor",), ((3, 1),)), (("column", 0), ((1, 2), (3, 1))), (("column", 1), ((1, 2), (3, 1))),
                          *[(("cell", 0, t), ()) for t in range(6)]])

    def test_marked_cells_have_no_equation(self):
        card = Card.of_words("ddoodo", "ddoodo", marks=[(0, 2), (0, 3)])
        self.assertEqual([row.name for row in equation_rows(card, "o")][3:], [("cell", 0, t) for t in (0, 1, 4, 5)])
        self.assertEqual([row.factors for row in equation_rows(card, "o")][3:],
                         [(), (), ((1, 2), (4, -2)), ((1, 2), (4, -2))])

    def test_small_cards_with_and_without_marks(self):
        for size, width in ((1, 1), (1, 3), (2, 1), (2, 2), (2, 3), (3, 1), (3, 2), (4, 1)):
            for card in all_cards(size, width):
                marked = [(c, t) for c in range(width - 1) for t in range(1 + c % 2, 2 * size - 1, 2)]
                for each in (card, card.with_marks(marked)):
                    for letter in "do":
                        rows = equation_rows(each, letter)
                        self.assertIs(rows.__class__, tuple)
                        self.assertEqual(told(rows), slow_rows(each, letter))
                        self.assertEqual({row.__class__ for row in rows}, {Equation})

    def test_a_great_card(self):
        words = ["dodododododo", "ddooddooddoo", "ddodoododdoo", "dddoododdooo"] * 3
        card = Card.of_words(*words, marks=[(c, t) for c in range(11) for t in (2, 5, 8)])
        for letter in "do":
            self.assertEqual(told(equation_rows(card, letter)), slow_rows(card, letter))


class EquationTest(unittest.TestCase):
    EQUATION = Equation(("column", 3), ((1, 2), (4, -3), (7, 10 ** 30)))

    def test_attributes_are_tuples(self):
        self.assertEqual(vars(self.EQUATION),
                         {"name": ("column", 3), "factors": ((1, 2), (4, -3), (7, 10 ** 30))})
        name, factors = ["cell", 0, 1], [[1, 2], (4, -3)]
        equation = Equation(name, factors)
        name.append(5)
        factors[0][1] = 9
        factors.append((6, 6))
        self.assertEqual((equation.name, equation.factors), (("cell", 0, 1), ((1, 2), (4, -3))))
        self.assertEqual((Equation(("floor",), ()).name, Equation(("floor",), ()).factors), (("floor",), ()))

    def test_factor(self):
        self.assertEqual([self.EQUATION.factor(panel) for panel in range(9)],
                         [0, 2, 0, 0, -3, 0, 0, 10 ** 30, 0])
        self.assertEqual(Equation(("wall",), ()).factor(0), 0)

    def test_called_with_rates(self):
        self.assertEqual(self.EQUATION([0, 1, 0, 0, 0, 5, 0, 0]), 2)
        self.assertEqual(self.EQUATION((9, 3, 9, 9, 2, 9, 9, 0)), 0)
        self.assertEqual(self.EQUATION((0, -1, 0, 0, 1, 0, 0, 2)), 2 * 10 ** 30 - 5)
        self.assertEqual(Equation(("wall",), ())([1, 2, 3]), 0)

    def test_equality(self):
        self.assertEqual(self.EQUATION, Equation(["column", 3], [[1, 2], [4, -3], [7, 10 ** 30]]))
        self.assertEqual(equation_rows(PAIR, "o"), equation_rows(Card.of_words("dododo", "ddoodo"), "o"))
        for other in (Equation(("column", 4), self.EQUATION.factors), Equation(("column", 3), ((1, 2), (4, -3))),
                      Equation(("column", 3), ()), ("column", 3), None, self.EQUATION.factors):
            self.assertFalse(self.EQUATION == other)
            self.assertTrue(self.EQUATION != other)
        self.assertIs(self.EQUATION.__eq__(Anything()), False)
