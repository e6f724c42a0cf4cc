"""The names, arguments and kinds of what the document's interface lists for the modules that are there."""

import importlib
import inspect
import unittest

CONSTANTS = {"columns": {"MOST_SIZE": 6}, "cards": {"MOST_WIDTH": 12},
             "verdicts": {"VERDICTS": ("follows", "stuck", "opens", "sways", "parted")}, "knots": {"MOST_LOT_PANELS": 12}}
GENERATORS = {"all_columns", "all_cards", "cards_between", "fewest_rows", "let_pulls", "let_pushes", "let_orders",
              "braced_pulls", "granted_words", "granted_cards", "cards_by_slits", "columns_with_row"}
FUNCTIONS = {
    "columns": ["is_whole(thing, low, high)", "word_fault(thing)"],
    "allcolumns": ["all_columns(size)", "how_many_columns(size)", "column_index(column)", "column_at(size, number)",
                   "plain_column(size)", "steep_column(size)"],
    "panels": ["panel_table(card)", "panels_of(card)", "panel_of(card, c, t)", "wall_panel(card)", "floor_panel(card)",
               "letter_panels(card, letter)", "crease_rows(card)", "hinges(card, ahead, behind)", "hinge_pairs(card)"],
    "allcards": ["all_cards(size, width)", "how_many_cards(size, width)", "card_index(card)",
                 "card_at(size, width, number)", "plain_card(size, width)"],
    "nests": ["behind_fault(one, other)", "is_behind(one, other)", "shared_cells(one, other)", "behind_all(*cards)",
              "before_all(*cards)", "nest_of(*cards)"],
    "covers": ["fewest_nests(*cards)", "cover_fault(cards, cover)"],
    "between": ["squares_between(one, other)", "cards_between(one, other)", "how_many_between(one, other)",
                "between_index(one, other, card)", "between_at(one, other, number)", "longest_row(one, other)",
                "how_many_rows(one, other)", "longest_fault(one, other, cards)"],
    "stacking": ["pulled_column(column, *pulls)", "fewest_pulls(column)", "fewest_rows(column)",
                 "how_many_fewest(column)"],
    "equations": ["equation_rows(card, letter)"],
    "solving": ["implied_fault(system, row, told)"],
    "motions": ["motion_of(card)", "only_opens(card)", "motion_fault(card, told)", "panel_motion(card, panel)",
                "still_panels(card)", "freedom_of(card, letter)", "gear_of(card, one, other)",
                "speed_table(card, rates)", "opening_rates(card)", "loosening_cells(card)"],
    "wishes": ["missed_places(wish, card)"],
    "barring": ["bar_of(wish)", "bar_fault(wish, paper)"],
    "books": ["parting_strip(one, other)"],
    "shapes": ["shape_of(strip)", "shape_after(shape, word)"],
    "spans": ["span_of(strip)", "span_after(span, word)"],
    "verdicts": ["has_verdict(strip, verdict)"],
    "tallies": ["least_strip(book, verdict)", "greatest_width(book, verdict)", "how_many_with(book, width, verdict)"],
    "bookmends": ["changed_book(book, changes)", "is_good_book(book, verdict)",
                  "least_mends(book, pool, *, verdict='follows')"],
    "pulls": ["pull_fault(card, pull)", "push_fault(card, pull)", "pull_card(card, pull)", "push_card(card, pull)",
              "pull_box(card, pull)", "let_pulls(card)", "let_pushes(card)"],
    "resting": ["rest_table(boxes)", "numbers_beneath(table, number)", "numbers_above(table, number)",
                "order_fault(table, order)", "count_orders(table)", "order_index(table, order)",
                "order_at(table, index)", "order_exchanges(table, one, other)", "longest_chain(table)",
                "closed_lots(table)", "table_rounds(table)", "table_hands(table)", "hands_fault(table, hands)",
                "let_orders(table)"],
    "braced": ["brace_fault(card, pull)", "led_back(card, pull, motion)", "braced_order(studio)", "braced_pulls(card)"],
    "cardtext": ["card_text(card)", "parse_card(text)"],
    "closing": ["all_follow(book)", "all_open(book)", "closing_fault(book, told)"],
    "webs": ["granted_words(wish, c)", "granted_cards(wish)", "count_words(wish, c)", "word_at(wish, c, number)",
             "word_index(wish, c, word)", "sure_letters(wish, c)", "count_granted(wish)",
             "granted_card_at(wish, number)", "granted_card_index(wish, card)", "parting_card(one, other)"],
    "fewest": ["fewest_slits(wish)", "fewest_fault(wish, found)"],
    "follow": ["follow_of(card, known=())", "card_follows(card)", "follow_fault(card, result, known=())",
               "opening_of(card)"],
    "forms": ["forms_of(card, letter, lot)"],
    "knots": ["is_knot(card, lot)", "knots_of(card, letter)"],
    "leaders": ["leaders_of(card, letter)"],
    "views": ["front_view(card, printed)", "top_view(card, printed)", "print_from(card, front, top)",
              "slope_view(card, printed, p, q)", "cell_span(card, column, step, p, q)",
              "cell_seen(card, column, spot, p, q)"],
    "nearest": ["nearest_word(wish, c)", "nearest_fault(wish, c, found)", "nearest_card(wish)", "least_waivers(wish, c)"],
    "slitorder": ["slit_counts(wish)", "slit_order_at(wish, number)", "slit_order_index(wish, card)",
                  "cards_by_slits(wish)"],
    "openings": ["fewest_opening(wish, *, most=200)", "opening_fault(wish, found)"],
    "shut": ["gutter_distance(card, c, t)", "layer_of(card, c, t)", "thickness(card, c, k)", "layer_steps(card, c, k)",
             "middles(card, c, k)", "touching(card, c, k)", "thickness_row(card, c)", "thickest(card)"],
    "pages": ["least_bulge(pages)", "bulge_fault(pages, least, lots, worst)"],
    "parting": ["tells_cards(printed)", "fewest_changes(cards)", "parting_print(cards)"],
    "sides": ["side_view(card)", "side_fault(size, rows)", "card_of_side(size, rows)"],
    "slopes": ["alike_from(one, other, p, q)", "alike_by(one, other, printed, p, q)", "slopes_alike(one, other, printed)"],
    "thickrows": ["thickness_fault(row)", "how_many_with_row(row)", "row_index(column)", "columns_with_row(row)",
                  "column_with_row(row, number)"],
}
CLASSES = {
    "columns": {"Column(word)": ["many(self, letter, boundary)", "place(self, boundary)", "height(self, boundary)",
                                 "mirrored(self)", "__eq__(self, other)", "__str__(self)", "__len__(self)",
                                 "__iter__(self)", "of_heights(heights)"]},
    "cards": {"Card(columns, marks=())": [
        "of_words(*words, marks=())", "common(self, c)", "joined(self, c)", "counting(self, c)", "slit_edges(self, c)",
        "all_slit_edges(self)", "is_joined(self, c, t)", "mirrored(self)", "turned(self)", "unmarked(self)",
        "with_marks(self, marks)", "without_marks(self, marks)", "part(self, first, last)",
        "beside(self, other, *, slits=())", "__len__(self)", "__iter__(self)", "__eq__(self, other)"]},
    "panels": {"Panel(number, letter, cells, plane, columns)": ["__eq__(self, other)"]},
    "nests": {"Nested(order)": [], "Crossing(one, other, behind, before)": []},
    "covers": {"NestCover(nests, crossing)": []},
    "ratios": {"Ratio(top, bottom=1)": [
        "__add__(self, other)", "__sub__(self, other)", "__mul__(self, other)", "__neg__(self)", "__eq__(self, other)",
        "__bool__(self)", "__str__(self)", "over(self, other)"]},
    "equations": {"Equation(name, factors)": ["factor(self, panel)", "__call__(self, rates)", "__eq__(self, other)"]},
    "solving": {"System(unknowns, rows)": ["solutions(self)", "implies(self, row)"], "Implied(combination)": [],
                "Broken(numbers)": []},
    "motions": {"OnlyOpens(combinations)": [], "Sways(letter, rates)": [], "Still(combination)": [],
                "Geared(ratio, combination)": [], "Apart(first, second)": []},
    "prints": {"Print(inks)": [
        "mirrored(self)", "turned(self)", "with_ink(self, column, step, ink)", "__eq__(self, other)", "__len__(self)",
        "__iter__(self)", "plain(size, width, ink=0)", "alone(size, width, column, step)"]},
    "wishes": {"Wish(printed, front, top)": [
        "mirrored(self)", "turned(self)", "loosened(self, *places)", "__contains__(self, thing)",
        "__and__(self, other)", "__eq__(self, other)"]},
    "barring": {"Barred(column, reached)": ["__eq__(self, other)"]},
    "books": {"Book(size, rooms, start, arrows, ends)": [
        "of_strip(*words)", "of_any(*words)", "writes(self, strip)", "reads(self, card)", "how_many(self, width)",
        "strips(self, width)", "strip_at(self, width, number)", "number_of(self, strip)", "earliest(self)",
        "__eq__(self, other)", "__len__(self)", "__iter__(self)"]},
    "shapes": {"Shape(word, outs, downs)": ["__eq__(self, other)"]},
    "spans": {"Span(word, outs, downs)": ["__eq__(self, other)"]},
    "pulls": {
        "Pull(first, last, boundary, *, downs=1, outs=1)": [
            "mirrored(self, size)", "turned(self, width)", "__eq__(self, other)", "__str__(self)"],
        "Box(first, last, x, y, outs, downs)": [
            "meets(self, other)", "rests_on(self, other)", "__contains__(self, square)", "__len__(self)",
            "__eq__(self, other)"]},
    "resting": {"Hands(chains, together)": []},
    "studio": {"Studio(start)": [
        "pull(self, pull)", "take_back(self, number)", "take_down(self, number)", "replay(self, order)",
        "card_of(self, lot)", "trial(self)", "tried(self, call)", "with_pulls(start, *pulls)", "__len__(self)",
        "__iter__(self)"]},
    "braced": {"BracedOrder(order)": [], "NoBracedOrder(lots)": []},
    "closing": {"AllFollow(pairs)": ["__eq__(self, other)", "__len__(self)", "__iter__(self)"],
                "AllOpen(pairs)": ["__eq__(self, other)", "__len__(self)", "__iter__(self)"],
                "SomeCard(strip)": ["__eq__(self, other)"]},
    "fewest": {"Fewest(card, slits, prices)": ["__eq__(self, other)"]},
    "follow": {"Follows(rounds)": ["round_of(self, panel)", "__eq__(self, other)"],
               "Stuck(rounds, known, rest)": ["round_of(self, panel)", "__eq__(self, other)"]},
    "forms": {"Forms(letter, lot, rows, conditions)": ["of(self, panel)", "__call__(self, rates)", "__eq__(self, other)"],
              "Led(letter, rates)": ["__eq__(self, other)"], "Clash(name, total)": ["__eq__(self, other)"]},
    "leaders": {"Holding(card)": ["hold(self, panel)", "free(self, panel)", "try_holds(self, panels)", "__len__(self)",
                                  "__iter__(self)"]},
    "lookalikes": {"Lookalikes(card, printed)": ["lookalike_at(self, number)", "number_of(self, card)",
                                                 "each_lookalike(self)"]},
    "nearest": {"Nearest(word, misses, prices)": ["__eq__(self, other)"]},
    "openings": {"FewestOpening(card, paper, ahead)": []},
    "pages": {"Pages(*cards)": ["thickness_at(self, c, k)", "layers_at(self, c, k)", "bulge(self)",
                                "in_order(self, order)", "with_turned(self, lot)", "__len__(self)", "__iter__(self)",
                                "__eq__(self, other)"],
              "Bulge(least, lots, worst)": ["__eq__(self, other)"]},
    "parting": {"Twins(column, boundary, one, other)": []},
}
PROPERTIES = {("columns", "Column"): ["heights", "places", "runs", "creases", "hollows", "ridges"],
              ("solving", "System"): ["rank"], ("shapes", "Shape"): ["follows", "is_lost"],
              ("spans", "Span"): ["opens", "is_loose"], ("pulls", "Box"): ["squares"], ("studio", "Studio"): ["table"],
              ("follow", "Follows"): ["steps"], ("follow", "Stuck"): ["steps"],
              ("lookalikes", "Lookalikes"): ["alike_many"]}
GENERATOR_METHODS = {("books", "Book"): ["strips"], ("lookalikes", "Lookalikes"): ["each_lookalike"]}
# What each object of a class has as attributes of its own, and what makes one.
ATTRIBUTES = {("leaders", "Holding"): ["card", "held", "known", "rest"], ("pages", "Pages"): ["cards", "size", "width"],
              ("lookalikes", "Lookalikes"): ["card", "printed"],
              ("studio", "Studio"): ["start", "card", "pulls", "boxes"]}


def told_of(thing, name):
    return f"{name}{inspect.signature(thing)}"


def module_of(name):
    return importlib.import_module(f"slitstairs.{name}")


class InterfaceTest(unittest.TestCase):
    def test_functions(self):
        for name, functions in FUNCTIONS.items():
            for told in functions:
                function = getattr(module_of(name), told.split("(")[0])
                self.assertEqual(told_of(function, function.__name__), told)
                self.assertEqual(function.__module__, f"slitstairs.{name}")
                self.assertEqual(inspect.isgeneratorfunction(function), function.__name__ in GENERATORS, told)

    def test_classes(self):
        for name, classes in CLASSES.items():
            for told, methods in classes.items():
                found = getattr(module_of(name), told.split("(")[0])
                self.assertEqual(told_of(found, found.__name__), told)
                self.assertEqual((found.__module__, found.__bases__), (f"slitstairs.{name}", (object,)))
                for method in methods:
                    short = method.split("(")[0]
                    self.assertIn(short, vars(found), told)
                    self.assertEqual(told_of(getattr(found, short), short), method)

    def test_properties(self):
        for (name, short), properties in PROPERTIES.items():
            for each in properties:
                self.assertIsInstance(vars(getattr(module_of(name), short))[each], property)

    def test_generator_methods(self):
        for (name, short), methods in GENERATOR_METHODS.items():
            for each in methods:
                self.assertTrue(inspect.isgeneratorfunction(vars(getattr(module_of(name), short))[each]))

    def test_attributes(self):
        card = module_of("cards").Card.of_words("ddoo")
        for (name, short), attributes in ATTRIBUTES.items():
            more = [module_of("prints").Print.plain(2, 1)] if short == "Lookalikes" else []
            found = vars(getattr(module_of(name), short)(card, *more))
            self.assertLessEqual(set(attributes), set(found))

    def test_class_values(self):
        self.assertEqual(vars(module_of("books").Book)["MOST_WIDTH"], 60)

    def test_constants(self):
        for name, constants in CONSTANTS.items():
            for constant, value in constants.items():
                self.assertEqual(getattr(module_of(name), constant), value)
