"""The names, arguments and kinds of what the document's interface lists for the modules that are there."""

import importlib
import inspect
import unittest

CONSTANTS = {"columns": {"MOST_SIZE": 6}, "cards": {"MOST_WIDTH": 12}}
GENERATORS = {"all_columns", "all_cards", "cards_between", "fewest_rows"}
FUNCTIONS = {
    "columns": ["is_whole(thing, low, high)", "word_fault(thing)"],
    "allcolumns": ["all_columns(size)", "how_many_columns(size)", "column_index(column)", "column_at(size, number)",
                   "plain_column(size)", "steep_column(size)"],
    "panels": ["panel_table(card)", "panels_of(card)", "panel_of(card, c, t)", "wall_panel(card)", "floor_panel(card)",
               "letter_panels(card, letter)", "crease_rows(card)", "hinges(card, ahead, behind)", "hinge_pairs(card)"],
    "allcards": ["all_cards(size, width)", "how_many_cards(size, width)", "card_index(card)",
                 "card_at(size, width, number)", "plain_card(size, width)"],
    "nests": ["behind_fault(one, other)", "is_behind(one, other)", "shared_cells(one, other)", "behind_all(*cards)",
              "before_all(*cards)", "nest_of(*cards)"],
    "covers": ["fewest_nests(*cards)", "cover_fault(cards, cover)"],
    "between": ["squares_between(one, other)", "cards_between(one, other)", "how_many_between(one, other)",
                "between_index(one, other, card)", "between_at(one, other, number)", "longest_row(one, other)",
                "how_many_rows(one, other)", "longest_fault(one, other, cards)"],
    "stacking": ["pulled_column(column, *pulls)", "fewest_pulls(column)", "fewest_rows(column)",
                 "how_many_fewest(column)"],
    "equations": ["equation_rows(card, letter)"],
    "solving": ["implied_fault(system, row, told)"],
    "motions": ["motion_of(card)", "only_opens(card)", "motion_fault(card, told)", "panel_motion(card, panel)",
                "still_panels(card)", "freedom_of(card, letter)", "gear_of(card, one, other)",
                "speed_table(card, rates)", "opening_rates(card)", "loosening_cells(card)"],
}
CLASSES = {
    "columns": {"Column(word)": ["many(self, letter, boundary)", "place(self, boundary)", "height(self, boundary)",
                                 "mirrored(self)", "__eq__(self, other)", "__str__(self)", "__len__(self)",
                                 "__iter__(self)", "of_heights(heights)"]},
    "cards": {"Card(columns, marks=())": [
        "of_words(*words, marks=())", "common(self, c)", "joined(self, c)", "counting(self, c)", "slit_edges(self, c)",
        "all_slit_edges(self)", "is_joined(self, c, t)", "mirrored(self)", "turned(self)", "unmarked(self)",
        "with_marks(self, marks)", "without_marks(self, marks)", "part(self, first, last)",
        "beside(self, other, *, slits=())", "__len__(self)", "__iter__(self)", "__eq__(self, other)"]},
    "panels": {"Panel(number, letter, cells, plane, columns)": ["__eq__(self, other)"]},
    "nests": {"Nested(order)": [], "Crossing(one, other, behind, before)": []},
    "covers": {"NestCover(nests, crossing)": []},
    "ratios": {"Ratio(top, bottom=1)": [
        "__add__(self, other)", "__sub__(self, other)", "__mul__(self, other)", "__neg__(self)", "__eq__(self, other)",
        "__bool__(self)", "__str__(self)", "over(self, other)"]},
    "equations": {"Equation(name, factors)": ["factor(self, panel)", "__call__(self, rates)", "__eq__(self, other)"]},
    "solving": {"System(unknowns, rows)": ["solutions(self)", "implies(self, row)"], "Implied(combination)": [],
                "Broken(numbers)": []},
    "motions": {"OnlyOpens(combinations)": [], "Sways(letter, rates)": [], "Still(combination)": [],
                "Geared(ratio, combination)": [], "Apart(first, second)": []},
    "prints": {"Print(inks)": [
        "mirrored(self)", "turned(self)", "with_ink(self, column, step, ink)", "__eq__(self, other)", "__len__(self)",
        "__iter__(self)", "plain(size, width, ink=0)", "alone(size, width, column, step)"]},
}
PROPERTIES = {("columns", "Column"): ["heights", "places", "runs", "creases", "hollows", "ridges"],
              ("solving", "System"): ["rank"]}


def told_of(thing, name):
    return f"{name}{inspect.signature(thing)}"


def module_of(name):
    return importlib.import_module(f"slitstairs.{name}")


class InterfaceTest(unittest.TestCase):
    def test_functions(self):
        for name, functions in FUNCTIONS.items():
            for told in functions:
                function = getattr(module_of(name), told.split("(")[0])
                self.assertEqual(told_of(function, function.__name__), told)
                self.assertEqual(function.__module__, f"slitstairs.{name}")
                self.assertEqual(inspect.isgeneratorfunction(function), function.__name__ in GENERATORS, told)

    def test_classes(self):
        for name, classes in CLASSES.items():
            for told, methods in classes.items():
                found = getattr(module_of(name), told.split("(")[0])
                self.assertEqual(told_of(found, found.__name__), told)
                self.assertEqual((found.__module__, found.__bases__), (f"slitstairs.{name}", (object,)))
                for method in methods:
                    short = method.split("(")[0]
                    self.assertIn(short, vars(found), told)
                    self.assertEqual(told_of(getattr(found, short), short), method)

    def test_properties(self):
        for (name, short), properties in PROPERTIES.items():
            for each in properties:
                self.assertIsInstance(vars(getattr(module_of(name), short))[each], property)

    def test_constants(self):
        for name, constants in CONSTANTS.items():
            for constant, value in constants.items():
                self.assertEqual(getattr(module_of(name), constant), value)
