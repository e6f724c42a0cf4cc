"""What ties the parts together: sentences of the document that several modules keep at once."""

import random
import unittest
from itertools import combinations, permutations, product

from helpers import all_words, some_book
from slitstairs.allcards import all_cards, card_at, card_index, how_many_cards, plain_card
from slitstairs.books import Book
from slitstairs.cards import Card
from slitstairs.cardtext import card_text, parse_card
from slitstairs.closing import AllFollow, AllOpen, all_follow, all_open, closing_fault
from slitstairs.columns import Column
from slitstairs.equations import equation_rows
from slitstairs.fewest import fewest_slits
from slitstairs.follow import Follows, card_follows, follow_of, opening_of
from slitstairs.forms import Led, forms_of
from slitstairs.knots import knots_of
from slitstairs.leaders import Holding, leaders_of
from slitstairs.lookalikes import Lookalikes
from slitstairs.motions import freedom_of, motion_fault, only_opens
from slitstairs.nearest import nearest_card, nearest_word
from slitstairs.nests import behind_all, before_all, is_behind
from slitstairs.between import between_index, how_many_between, longest_row, squares_between
from slitstairs.openings import fewest_opening
from slitstairs.pages import Pages
from slitstairs.panels import letter_panels, panel_table, panels_of
from slitstairs.parting import fewest_changes, parting_print
from slitstairs.prints import Print
from slitstairs.pulls import Pull, let_pulls, let_pushes, pull_box, pull_card, push_card
from slitstairs.resting import closed_lots, let_orders
from slitstairs.shapes import shape_of
from slitstairs.shut import thickest, thickness
from slitstairs.sides import card_of_side, side_view
from slitstairs.slitorder import cards_by_slits, slit_counts, slit_order_at
from slitstairs.slopes import slopes_alike
from slitstairs.spans import span_of
from slitstairs.stacking import fewest_rows
from slitstairs.studio import Studio
from slitstairs.tallies import how_many_with, least_strip
from slitstairs.verdicts import VERDICTS, has_verdict
from slitstairs.views import front_view, top_view
from slitstairs.webs import count_granted, granted_cards, granted_words
from slitstairs.wishes import Wish, missed_places


def drawn_cards(many, marked=True, shapes=((1, 3), (2, 2), (2, 4), (3, 1), (3, 2), (3, 4), (4, 2), (4, 3), (5, 2), (6, 3))):
    chance = random.Random(261)
    for size, width in shapes:
        for _ in range(many):
            card = card_at(size, width, chance.randrange(how_many_cards(size, width)))
            places = [(c, t) for c in range(width - 1) for t in range(1, 2 * size - 1)]
            yield card.with_marks(chance.sample(places, chance.choice((0, 1, 2)))) if marked and len(places) > 1 else card


def drawn_print(chance, card, inks=3):
    return Print([[chance.randrange(inks) for _ in range(2 * card.size)] for _ in range(card.width)])


def drawn_studios():
    chance = random.Random(262)
    for card in drawn_cards(4):
        studio = Studio(plain_card(card.size, card.width).with_marks(card.marks))
        for _ in range(5):
            pulls = list(let_pulls(studio.card))
            if pulls:
                studio.pull(chance.choice(pulls))
        yield studio


class PullsAndSquaresTest(unittest.TestCase):
    def test_each_step_of_a_longest_row_is_a_pull(self):
        """[3.8]"""
        steps = 0
        for one, other in combinations(list(drawn_cards(6, marked=False, shapes=((3, 2), (4, 1), (3, 3)))), 2):
            if (one.size, one.width) != (other.size, other.width):
                continue
            row = longest_row(behind_all(one, other), before_all(one, other))
            self.assertEqual(len(row), len(squares_between(row[0], row[-1])) + 1)
            for card, led in zip(row, row[1:]):
                ((c, x, y),) = squares_between(card, led)
                pull = Pull(c, c, x - y + card.size)
                self.assertEqual((pull_card(card, pull), pull_box(card, pull).squares), (led, ((c, x, y),)))
                steps += 1
        self.assertGreater(steps, 30)

    def test_a_box_is_what_lies_between(self):
        for card in drawn_cards(3, marked=False):
            for pull in list(let_pulls(card))[:12]:
                led = pull_card(card, pull)
                self.assertTrue(is_behind(card, led))
                self.assertEqual(pull_box(card, pull).squares, squares_between(card, led))
                self.assertEqual(push_card(led, pull), card)

    def test_fewest_pulls_are_pulls_of_a_card(self):
        """[3.9], [3.10]"""
        for word in all_words(4):
            for row in fewest_rows(Column(word)):
                studio = Studio.with_pulls(plain_card(4, 1), *[
                    Pull(0, 0, boundary, downs=downs, outs=outs) for boundary, downs, outs in row])
                self.assertEqual(studio.card.words, (word,))
                self.assertEqual(sum(map(len, studio.boxes)), len(squares_between(studio.start, studio.card)))

    def test_pulls_of_mirrored_and_turned_cards(self):
        """[9.4]"""
        for card in drawn_cards(3):
            for call in (let_pulls, let_pushes):
                pulls = [str(pull) for pull in call(card)]
                self.assertEqual(sorted(str(pull.mirrored(card.size)) for pull in call(card.mirrored())), sorted(pulls))
                self.assertEqual(sorted(str(pull.turned(card.width)) for pull in call(card.turned())), sorted(pulls))
            for pull in let_pulls(card):
                led = pull_card(card, pull)
                self.assertEqual(pull_card(card.mirrored(), pull.mirrored(card.size)), led.mirrored())
                self.assertEqual(pull_card(card.turned(), pull.turned(card.width)), led.turned())

    def test_studios_of_mirrored_and_turned_cards(self):
        for studio in drawn_studios():
            start, size, width = studio.start, studio.start.size, studio.start.width
            for other in (Studio.with_pulls(start.mirrored(), *[pull.mirrored(size) for pull in studio]),
                          Studio.with_pulls(start.turned(), *[pull.turned(width) for pull in studio])):
                self.assertEqual(other.table, studio.table)
            self.assertEqual(Studio.with_pulls(start.turned(), *[pull.turned(width) for pull in studio]).card, studio.card.turned())

    def test_lots_and_orders(self):
        """[9.11]"""
        for studio in drawn_studios():
            cards = [studio.card_of(lot) for lot in closed_lots(studio.table)]
            self.assertEqual(len({card.words for card in cards}), len(cards))
            for order in list(let_orders(studio.table))[:20]:
                again = studio.replay(order)
                self.assertEqual((again.card, len(again)), (studio.card, len(studio)))
                self.assertEqual([again.boxes[k] for k in range(len(order))], [studio.boxes[number] for number in order])
                for k in range(len(order) + 1):
                    lot = tuple(sorted(order[:k]))
                    self.assertEqual(Studio.with_pulls(studio.start, *again.pulls[:k]).card, studio.card_of(lot))


def rounds_of(card, known, columns, names):
    """The rounds as lots of (cells of the panel, name), the columns led along."""
    cells = {panel.number: panel.cells for panel in panels_of(card)}
    return [{(tuple((columns + c, t) for c, t in cells[panel]), names(name)) for panel, name in pairs}
            for pairs in follow_of(card, known).rounds]


class FollowingTest(unittest.TestCase):
    def test_parts_left_and_right_of_a_column(self):
        """[5.12]"""
        several = 0
        for card in drawn_cards(6):
            for c in range(card.width):
                known = sorted(set(panel_table(card)[c]))
                left, right = card.part(0, c), card.part(c, card.width - 1)
                one = rounds_of(left, sorted(set(panel_table(left)[c])), 0, tuple)
                other = rounds_of(right, sorted(set(panel_table(right)[0])), c,
                                  lambda name: (name[0], *[name[1] + c], *name[2:]) if name[1:] else name)
                beside = [(one[k] if k < len(one) else set()) | (other[k] if k < len(other) else set())
                          for k in range(max(len(one), len(other)))]
                self.assertEqual(rounds_of(card, known, 0, tuple), beside)
                several += len(beside) > 1
        self.assertGreater(several, 3)

    def test_no_order_of_rounds_is_faster(self):
        """[5.5]"""
        chance = random.Random(263)
        for card in drawn_cards(4):
            rows = [{panel for panel, _ in row.factors} for letter in "do" for row in equation_rows(card, letter)]
            told = follow_of(card)
            known, number = set(), 0
            while True:
                steps = sorted({min(row - known) for row in rows if len(row - known) == 1})
                if not steps:
                    break
                number += 1
                made = chance.sample(steps, chance.randrange(1, len(steps) + 1))
                for panel in made:
                    self.assertLessEqual(told.round_of(panel), number)
                known |= set(made)
            self.assertEqual(known, {panel for panel, _ in told.steps})

    def test_turned_cards_follow_alike(self):
        for card in drawn_cards(4):
            self.assertEqual(card_follows(card), card_follows(card.turned()))
            self.assertEqual([len(pairs) for pairs in follow_of(card).rounds],
                             [len(pairs) for pairs in follow_of(card.turned()).rounds])
            for letter in "do":
                knots = [sorted(len(knot) for knot in knots_of(each, letter)) for each in (card, card.turned())
                         if len(letter_panels(card, letter)) <= 9]
                self.assertEqual(knots[:1], knots[1:])

    def test_what_follows_only_opens(self):
        """[5.7], [10.11]"""
        kinds = set()
        for card in drawn_cards(6):
            if card_follows(card):
                self.assertTrue(only_opens(card))
                self.assertIsNone(motion_fault(card, opening_of(card)))
            kinds.add((card_follows(card), only_opens(card)))
        self.assertLessEqual({(True, True), (False, False)}, kinds)

    def test_leaders_forms_and_freedoms(self):
        """[5.9] to [5.13]"""
        for card in drawn_cards(3):
            for letter in "do":
                panels = letter_panels(card, letter)
                if len(panels) > 9:
                    continue
                for leader in leaders_of(card, letter)[:6]:
                    forms = forms_of(card, letter, leader)
                    self.assertLessEqual(freedom_of(card, letter), len(leader))
                    self.assertEqual(forms([0] * len(leader)).__class__, Led)
                    holding = Holding(card)
                    self.assertFalse(set(holding.try_holds(leader)) & set(panels))
                    for panel in leader:
                        holding.hold(panel)
                    self.assertEqual(holding.held, leader)
                    for knot in knots_of(card, letter):
                        self.assertTrue(set(knot) & set(leader))


class StripsTest(unittest.TestCase):
    def test_verdicts_of_cards(self):
        """[10.1], [10.11]"""
        for card in drawn_cards(5, marked=False):
            if card.size > 4:
                continue
            follows, opens = card_follows(card), only_opens(card)
            told = (follows, not follows, opens, not opens, opens and not follows)
            self.assertEqual(tuple(has_verdict(card.words, verdict) for verdict in VERDICTS), told)
            self.assertEqual((shape_of(card.words).follows, span_of(card.words).opens), (follows, opens))

    def test_shapes_tell_what_follows_of_cards(self):
        """[10.7]"""
        for card in drawn_cards(4, marked=False):
            if card.size > 4:
                continue
            shape = shape_of(card.words)
            for letter, entries in (("o", shape.outs), ("d", shape.downs)):
                last = panel_table(card)[-1]
                runs = [last[first] for told, first, _ in card.columns[-1].runs if told == letter]
                behind = set(letter_panels(card, letter)) - set(runs)
                for number, (known, is_behind_known) in enumerate(entries):
                    lot = [runs[k] for k in range(len(runs)) if number >> k & 1]
                    told = follow_of(card, lot)
                    end = set(range(len(panels_of(card)))) if isinstance(told, Follows) else set(told.known)
                    self.assertEqual(known, tuple(k for k, run in enumerate(runs) if run in end))
                    self.assertEqual(is_behind_known, behind <= end)

    def test_spans_and_freedoms(self):
        """[10.9]"""
        for card in drawn_cards(4, marked=False):
            if card.size > 4:
                continue
            span = span_of(card.words)
            for letter, (tight, rows) in (("o", span.outs), ("d", span.downs)):
                self.assertLessEqual(len(rows), freedom_of(card, letter))
                self.assertEqual(tight, len(rows) == freedom_of(card, letter))

    def test_books_and_cards(self):
        """[10.5], [10.12] to [10.14]"""
        chance = random.Random(264)
        kinds = set()
        for _ in range(30):
            size, rooms = chance.choice((2, 3, 4)), chance.choice((1, 2, 3))
            book = some_book(chance, size, rooms, 4, Book)
            cards = [Card.of_words(*words) for width in (1, 2, 3) for words in product(book.words, repeat=width)]
            cards = [card for card in cards if book.reads(card)]
            for card in cards:
                self.assertEqual(book.strip_at(card.width, book.number_of(card.words)), card.words)
            for call, shows, fine, verdict in ((all_follow, AllFollow, card_follows, "stuck"),
                                               (all_open, AllOpen, only_opens, "sways")):
                told = call(book)
                self.assertIsNone(closing_fault(book, told))
                wrong = [card for card in cards if not fine(card)]
                self.assertEqual(isinstance(told, shows), least_strip(book, verdict) is None)
                if isinstance(told, shows):
                    self.assertEqual(wrong, [])
                elif wrong:
                    self.assertEqual(told.strip, wrong[0].words)
                for width in (1, 2, 3):
                    self.assertEqual(how_many_with(book, width, verdict), len([card for card in wrong if card.width == width]))
                kinds.add((shows, isinstance(told, shows)))
        self.assertEqual(len(kinds), 4)


class ViewsAndWishesTest(unittest.TestCase):
    def test_what_a_card_shows_is_granted(self):
        """[7.2]: just the cards that look alike from the front and from above."""
        chance = random.Random(265)
        many = 0
        for card in [Card.of_words("ddddoooo"), *drawn_cards(6, shapes=((2, 2), (3, 1), (3, 2), (4, 1)))]:
            printed = drawn_print(chance, card, chance.choice((1, 2)))
            if card.words == ("ddddoooo",):
                printed = Print([[0, 1] * 4])
            wish = Wish(printed, front_view(card, printed), top_view(card, printed))
            self.assertIn(card, wish)
            told = [other for other in all_cards(card.size, card.width)
                    if {"front", "top"} <= set(slopes_alike(card, other, printed))]
            self.assertEqual(list(granted_cards(wish)), told)
            # Those that look alike from between are among them.
            alike = list(Lookalikes(card, printed).each_lookalike())
            self.assertEqual([other for other in alike if other not in told], [])
            many += len(told) > len(alike)
        self.assertGreater(many, 0)

    def test_lookalikes_lie_between_the_first_and_the_last(self):
        """[6.11], [3.7]"""
        chance = random.Random(266)
        for card in drawn_cards(4, marked=False, shapes=((2, 3), (3, 2), (4, 2))):
            found = Lookalikes(card, drawn_print(chance, card, 2))
            first, last = found.lookalike_at(0), found.lookalike_at(found.alike_many - 1)
            self.assertLessEqual(found.alike_many, how_many_between(first, last))
            numbers = [between_index(first, last, other) for other in found.each_lookalike()]
            self.assertEqual(numbers, sorted(set(numbers)))

    def test_lookalikes_of_mirrored_and_turned_cards(self):
        """[6.17]"""
        chance = random.Random(267)
        for card in drawn_cards(4, shapes=((2, 3), (3, 2), (4, 2))):
            printed = drawn_print(chance, card, 2)
            words = {other.words for other in Lookalikes(card, printed).each_lookalike()}
            mirrored = Lookalikes(card.mirrored(), printed.mirrored())
            turned = Lookalikes(card.turned(), printed.turned())
            self.assertEqual({other.mirrored().words for other in mirrored.each_lookalike()}, words)
            self.assertEqual({other.turned().words for other in turned.each_lookalike()}, words)

    def test_alike_cards_of_mirrored_and_turned_cards(self):
        """[6.10], [6.17]: mirrored, the front and the top change places."""
        chance = random.Random(268)
        led = {"front": "top", "top": "front", "even": "even", "between": "between"}
        for card in drawn_cards(4, shapes=((2, 2), (3, 1), (4, 1))):
            printed = drawn_print(chance, card, 2)
            for other in list(all_cards(card.size, card.width))[:9]:
                told = slopes_alike(card, other, printed)
                mirrored = slopes_alike(card.mirrored(), other.mirrored(), printed.mirrored())
                self.assertEqual({led[word] for word in mirrored}, set(told))
                self.assertEqual(slopes_alike(card.turned(), other.turned(), printed.turned()), told)

    def test_mirrored_and_turned_wishes(self):
        """[7.6], [7.9]"""
        chance = random.Random(269)
        for card in drawn_cards(3, shapes=((2, 2), (3, 2), (4, 2))):
            printed = drawn_print(chance, card, 2)
            rows = [[[ink if chance.randrange(3) else None for ink in row] for row in view]
                    for view in (front_view(card, printed), top_view(card, printed))]
            wish = Wish(printed, *rows)
            words = {other.words for other in granted_cards(wish)}
            self.assertEqual({other.mirrored().words for other in granted_cards(wish.mirrored())}, words)
            self.assertEqual({other.turned().words for other in granted_cards(wish.turned())}, words)
            for other in (wish.mirrored(), wish.turned()):
                self.assertEqual(slit_counts(other), slit_counts(wish))
                self.assertEqual(fewest_slits(other).slits, fewest_slits(wish).slits)
            self.assertEqual(len(missed_places(wish.mirrored(), nearest_card(wish).mirrored())), 0)

    def test_loosened_and_joined_wishes(self):
        """[7.6]"""
        chance = random.Random(270)
        for card in drawn_cards(3, shapes=((2, 2), (3, 2), (4, 2))):
            printed = drawn_print(chance, card, 3)
            wishes = [Wish(printed, *[[[chance.choice((ink, ink, ink, 7, None, None)) for ink in row] for row in view]
                                      for view in (front_view(card, printed), top_view(card, printed))]) for _ in range(2)]
            for wish in wishes:
                loose = wish.loosened(*missed_places(wish, card))
                self.assertIn(card, loose)
                self.assertEqual(sum(nearest_word(wish, c).misses for c in range(wish.width)),
                                 len(missed_places(wish, nearest_card(wish))))
            one, other = [wish.loosened(*missed_places(wish, card)) for wish in wishes]
            both = one & other
            self.assertEqual([each for each in granted_cards(one) if each in other], list(granted_cards(both)))

    def test_orders_of_slits(self):
        """[7.8] to [7.10]"""
        chance = random.Random(271)
        for card in drawn_cards(3, shapes=((3, 2), (4, 1), (4, 2))):
            printed = drawn_print(chance, card, 2)
            wish = Wish(printed, front_view(card, printed), [[None] * card.size] * card.width)
            order = list(cards_by_slits(wish))
            self.assertEqual(sorted(map(card_index, order)), [card_index(other) for other in granted_cards(wish)])
            self.assertEqual((len(order), order[0]), (count_granted(wish), fewest_slits(wish).card))
            found = fewest_opening(wish)
            opening = [other for other in order if only_opens(other)]
            self.assertEqual(found.card, opening[0] if opening else None)
            if opening:
                self.assertEqual(slit_order_at(wish, len(found.ahead)), found.card)

    def test_prints_that_part_cards(self):
        """[6.10], [6.13]"""
        for one, other in combinations(list(drawn_cards(5, shapes=((3, 2),))), 2):
            if one.words != other.words:
                printed = parting_print([one, other])
                self.assertEqual(len(fewest_changes([one, other])), 1)
                self.assertNotIn("between", slopes_alike(one, other, printed))
                self.assertIsNone(Lookalikes(one, printed).number_of(other))


class TextsAndSidesTest(unittest.TestCase):
    def test_texts(self):
        """[1.10]"""
        for card in drawn_cards(3):
            self.assertEqual(parse_card(card_text(card)), card)
            self.assertEqual(card_text(parse_card(card_text(card))), card_text(card))

    def test_sides_do_not_tell_the_order(self):
        """[6.16]"""
        for card in drawn_cards(2, marked=False, shapes=((2, 3), (3, 3), (4, 2))):
            for order in permutations(range(card.width)):
                other = Card([card.columns[c] for c in order])
                self.assertEqual(side_view(other), side_view(card))
                self.assertLessEqual(card_of_side(card.size, side_view(other)).words, other.words)


class ShutBooksTest(unittest.TestCase):
    def test_books_of_pages(self):
        """[8.3], [8.6]: the order of the cards and their marks change no number."""
        chance = random.Random(272)
        for size, width in ((2, 2), (3, 3), (4, 2)):
            cards = list(drawn_cards(4, shapes=((size, width),)))
            pages = Pages(*cards)
            for order in chance.sample(list(permutations(range(4))), 6):
                other = pages.in_order(order)
                self.assertEqual(other.bulge(), pages.bulge())
                for c, k in product(range(width), range(size)):
                    self.assertEqual(other.thickness_at(c, k), pages.thickness_at(c, k))
                    self.assertEqual(sorted(t for _, t in other.layers_at(c, k)), sorted(t for _, t in pages.layers_at(c, k)))
            self.assertEqual(Pages(*[card.unmarked() for card in cards]).bulge(), pages.bulge())
            self.assertEqual(Pages(cards[0]).bulge(), thickest(cards[0]))

    def test_turned_and_mirrored_books(self):
        for card in drawn_cards(3):
            for c, k in product(range(card.width), range(card.size)):
                self.assertEqual(thickness(card.turned(), card.width - 1 - c, k), thickness(card, c, k))
                self.assertEqual(thickness(card.mirrored(), c, k), thickness(card, c, k))


class WordsOfColumnsTest(unittest.TestCase):
    def test_granted_words_of_a_free_wish(self):
        for size in (1, 2, 3):
            wish = Wish(Print.plain(size, 1), [[None] * size], [[None] * size])
            self.assertEqual(list(granted_words(wish, 0)), all_words(size))
            self.assertEqual([card.words[0] for card in all_cards(size, 1)], all_words(size))
