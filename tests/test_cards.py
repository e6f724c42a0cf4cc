import unittest

from helpers import NO_NUMBERS, NO_SEQUENCES, Anything, Raises, all_words, heights_of
from slitstairs.cards import MOST_WIDTH, Card
from slitstairs.columns import Column
from slitstairs.errors import BadCard, BadColumn, BadPlace, NoColumn

WORDS = ("dddooo", "ddodoo", "dododo")
ALL_MARKS = tuple((c, t) for c in range(11) for t in range(1, 11))


def example():
    return Card.of_words(*WORDS, marks=[(0, 1), (1, 3)])


def columns_of(*words):
    return [Column(word) for word in words]


class CardTests(Raises, unittest.TestCase):
    def refused(self, index, what, call, *args, **more):
        with self.subTest(str((args, more))):
            self.raises(BadCard, {"index": index, "what": what}, call, *args, **more)


class CardTest(CardTests):
    def test_most_width(self):
        self.assertEqual(MOST_WIDTH, 12)

    def test_attributes(self):
        card = Card(columns_of(*WORDS), [[1, 3], (0, 1)])
        self.assertEqual(card.columns, tuple(columns_of(*WORDS)))
        self.assertEqual(card.marks, ((0, 1), (1, 3)))
        self.assertEqual((card.size, card.width, card.words), (3, 3, WORDS))
        self.assertEqual({mark.__class__ for mark in card.marks}, {tuple})

    def test_without_marks(self):
        self.assertEqual(Card(columns_of("do")).marks, ())
        self.assertEqual(Card(tuple(columns_of("do")), ()).words, ("do",))

    def test_greatest_and_least_card(self):
        card = Card.of_words(*["dodododododo"] * 12, marks=ALL_MARKS[::-1])
        self.assertEqual((card.size, card.width, card.marks), (6, 12, ALL_MARKS))
        card = Card.of_words("do")
        self.assertEqual((card.size, card.width, card.marks), (1, 1, ()))

    def test_len_and_iteration(self):
        self.assertEqual((len(example()), list(example())), (3, columns_of(*WORDS)))

    def test_lists_that_change_behind_the_call(self):
        columns, mark = columns_of(*WORDS), [0, 1]
        marks = [mark, (1, 3)]
        card = Card(columns, marks)
        columns.pop()
        columns[0] = Column("dododo")
        mark[0] = 1
        marks.append((0, 2))
        self.assertEqual(card, example())
        self.assertEqual((list(card), card.marks), (columns_of(*WORDS), ((0, 1), (1, 3))))
        self.assertEqual((columns, marks), (columns_of("dododo", "ddodoo"), [[1, 1], (1, 3), (0, 2)]))

    def test_equality(self):
        self.assertTrue(example() == example())
        self.assertFalse(example() != example())
        self.assertEqual(example(), Card(columns_of(*WORDS), ([1, 3], [0, 1])))
        others = [Card.of_words(*WORDS), Card.of_words(*WORDS, marks=[(0, 1)]),
                  Card.of_words(*WORDS, marks=[(0, 1), (1, 2)]),
                  Card.of_words(*WORDS[::-1], marks=[(0, 1), (1, 3)]),
                  Card.of_words(*WORDS, WORDS[2], marks=[(0, 1), (1, 3)])]
        for other in (*others, Anything(), None, WORDS, columns_of(*WORDS), Column("dddooo")):
            with self.subTest(str(other)):
                self.assertIs(example() == other, False)
        self.assertIs(Card.of_words("do") == Column("do"), False)

    def test_methods_stand_in_the_class(self):
        for name in ("of_words", "common", "joined", "counting", "slit_edges", "all_slit_edges", "is_joined",
                     "mirrored", "turned", "unmarked", "with_marks", "without_marks", "part", "beside",
                     "__len__", "__iter__", "__eq__"):
            self.assertIn(name, vars(Card))

    def test_of_words(self):
        self.assertEqual(Card.of_words(*WORDS), Card(columns_of(*WORDS)))
        self.assertEqual(Card.of_words("ddoo", "dodo", marks=([0, 2],)).marks, ((0, 2),))

    def test_of_words_refuses_words_first(self):
        self.raises(BadColumn, {"what": "count"}, Card.of_words, "do", "doo", "od", marks=None)
        self.raises(BadColumn, {"what": "below"}, Card.of_words, "do", "ddoo", "od", "x")
        self.raises(BadColumn, {"what": "word"}, Card.of_words, None)
        self.raises(BadColumn, {"what": "word"}, Card.of_words, *["do"] * 12, "")
        self.refused(0, "columns", Card.of_words)
        self.refused(0, "columns", Card.of_words, *["do"] * 13)
        self.refused(2, "size", Card.of_words, "do", "do", "ddoo", marks=None)
        self.refused(0, "marks", Card.of_words, "do", marks=None)

    def test_no_columns(self):
        for thing in (*NO_SEQUENCES, [], (), columns_of(*["do"] * 13), Column("do"), example()):
            self.refused(0, "columns", Card, thing)

    def test_no_column(self):
        for thing in (*NO_NUMBERS, "do", columns_of("do"), Card.of_words("do"), Anything()):
            self.refused(0, "column", Card, [thing])
            self.refused(1, "column", Card, (Column("do"), thing, None))

    def test_sizes(self):
        self.refused(1, "size", Card, columns_of("do", "ddoo", "do"))
        self.refused(2, "size", Card, columns_of("ddoo", "dodo", "do", "dododo"))

    def test_no_marks(self):
        for thing in NO_SEQUENCES:
            self.refused(0, "marks", Card, columns_of("ddoo", "ddoo"), thing)

    def test_no_mark(self):
        columns = columns_of("dddooo", "dddooo", "dddooo")
        things = [(-1, 1), (2, 1), (3, 1), (0, 0), (1, 5), (1, -1), (0, 6), (), (0,), (0, 1, 2), "01"]
        things += [(thing, 1) for thing in NO_NUMBERS] + [(1, thing) for thing in NO_NUMBERS]
        for thing in (*things, *NO_SEQUENCES):
            self.refused(0, "mark", Card, columns, [thing])
            self.refused(2, "mark", Card, columns, ((0, 1), [1, 4], thing, (0, 1)))

    def test_double(self):
        columns = columns_of("dddooo", "dddooo", "dddooo")
        self.refused(1, "double", Card, columns, [(0, 1), (0, 1)])
        self.refused(3, "double", Card, columns, [(1, 4), [0, 1], (0, 2), [1, 4], None])

    def test_small_cards_have_no_marks(self):
        self.refused(0, "mark", Card, columns_of("do", "do"), [(0, 1)])
        self.refused(0, "mark", Card, columns_of("do", "do"), [(0, 0)])
        self.refused(0, "mark", Card, columns_of("dddooo"), [(0, 1)])

    def test_the_first_word_that_applies(self):
        self.refused(0, "columns", Card, [None] * 13, None)
        self.refused(2, "column", Card, [Column("do"), Column("ddoo"), None], None)
        self.refused(1, "size", Card, columns_of("do", "ddoo"), None)
        self.refused(0, "mark", Card, columns_of("ddoo", "ddoo"), [(0, 3), (0, 1), (0, 1)])


class CommonTest(CardTests):
    def test_example(self):
        card = example()
        self.assertEqual((card.common(0), card.joined(0), card.slit_edges(0)), ((0, 1, 4, 5), (0, 4, 5), 3))
        self.assertEqual((card.common(1), card.joined(1), card.slit_edges(1)), ((0, 5), (0, 5), 4))
        self.assertEqual((card.counting(0), card.counting(1)), ((1,), ()))
        self.assertEqual(card.all_slit_edges(), 7)
        self.assertEqual([card.is_joined(0, t) for t in range(6)], [True, False, False, False, True, True])
        self.assertEqual([card.is_joined(1, t) for t in range(6)], [True] + [False] * 4 + [True])

    def test_like_letters_at_unlike_heights_are_not_common(self):
        card = Card.of_words("ddoddooo", "dodddooo")
        self.assertEqual(card.common(0), (0, 3, 4, 5, 6, 7))
        card = Card.of_words("dodododo", "dddooodo")
        self.assertEqual(card.common(0), (0, 5, 6, 7))

    def test_common_by_places(self):
        for size in (1, 2, 3, 4):
            for one in all_words(size):
                for other in all_words(size):
                    marks = [(0, t) for t in range(1, 2 * size - 1, 2)]
                    card = Card.of_words(one, other, marks=marks)
                    first, second = heights_of(one), heights_of(other)
                    common = [t for t in range(2 * size) if one[t] == other[t] and first[t] == second[t]]
                    joined = [t for t in common if (0, t) not in marks]
                    self.assertEqual(card.common(0), tuple(common))
                    self.assertEqual(card.joined(0), tuple(joined))
                    self.assertEqual(card.counting(0), tuple(t for t in common if (0, t) in marks))
                    self.assertEqual(card.slit_edges(0), 2 * size - len(joined))
                    self.assertEqual([t for t in range(2 * size) if card.is_joined(0, t)], joined)
                    self.assertEqual({common[0], common[-1]} - {0, 2 * size - 1}, set())

    def test_edges(self):
        self.assertEqual(Card.of_words("do").all_slit_edges(), 0)
        self.assertEqual(Card.of_words("do", "do").common(0), (0, 1))
        self.assertEqual(Card.of_words("do", "do").all_slit_edges(), 0)
        card = Card.of_words(*["ddddddoooooo", "dodododododo"] * 6, marks=ALL_MARKS)
        self.assertEqual((card.common(10), card.counting(10), card.all_slit_edges()), ((0, 11), (), 110))
        card = Card.of_words(*["dodododododo"] * 12, marks=ALL_MARKS)
        self.assertEqual((card.joined(10), len(card.counting(10)), card.all_slit_edges()), ((0, 11), 10, 110))

    def test_no_column(self):
        for width in (1, 3):
            card = Card.of_words(*["ddoo"] * width)
            for c in (*NO_NUMBERS, -1, width - 1, width):
                for call in (card.common, card.joined, card.counting, card.slit_edges):
                    with self.subTest(c):
                        self.raises(NoColumn, {"column": c}, call, c)

    def test_no_place(self):
        card = Card.of_words("ddoo", "ddoo", "ddoo")
        for c in (*NO_NUMBERS, -1, 2):
            with self.subTest(c):
                self.raises(BadPlace, {"column": c, "step": 1}, card.is_joined, c, 1)
                self.raises(BadPlace, {"column": c, "step": None}, card.is_joined, c, None)
        for t in (*NO_NUMBERS, -1, 4):
            with self.subTest(t):
                self.raises(BadPlace, {"column": 1, "step": t}, card.is_joined, 1, t)
        self.raises(BadPlace, {"column": 0, "step": 0}, Card.of_words("ddoo").is_joined, 0, 0)


class NewCardsTest(CardTests):
    def test_mirrored(self):
        card = Card.of_words("dddoodoo", "dodododo", "ddddoooo", marks=[(0, 1), (1, 6), (1, 3)])
        mirrored = card.mirrored()
        self.assertEqual(mirrored.words, ("ddoddooo", "dodododo", "ddddoooo"))
        self.assertEqual(mirrored.marks, ((0, 6), (1, 1), (1, 4)))
        self.assertEqual(mirrored.mirrored(), card)
        self.assertEqual([mirrored.joined(c) for c in (0, 1)],
                         [tuple(7 - t for t in card.joined(c)[::-1]) for c in (0, 1)])

    def test_turned(self):
        card = Card.of_words("dddoodoo", "dodododo", "ddddoooo", marks=[(0, 1), (1, 6), (1, 3)])
        turned = card.turned()
        self.assertEqual(turned.words, ("ddddoooo", "dodododo", "dddoodoo"))
        self.assertEqual(turned.marks, ((0, 3), (0, 6), (1, 1)))
        self.assertEqual(turned.turned(), card)
        self.assertEqual(Card.of_words("dddoodoo").turned(), Card.of_words("dddoodoo"))

    def test_unmarked(self):
        card = example()
        self.assertEqual(card.unmarked(), Card.of_words(*WORDS))
        self.assertEqual(card, example())
        self.assertEqual(Card.of_words("do").unmarked(), Card.of_words("do"))

    def test_with_marks(self):
        card, mark = example(), [0, 4]
        marks = [mark, (0, 2)]
        more = card.with_marks(marks)
        mark[0] = 1
        marks.clear()
        self.assertEqual(more, Card.of_words(*WORDS, marks=[(0, 1), (0, 2), (0, 4), (1, 3)]))
        self.assertEqual((card, card.with_marks(()), card.with_marks([])), (example(),) * 3)

    def test_with_marks_refused(self):
        card = example()
        for thing in NO_SEQUENCES:
            self.refused(0, "marks", card.with_marks, thing)
        for thing in (*NO_SEQUENCES, (2, 1), (-1, 1), (0, 0), (0, 5), (0, True), (None, 1), (0,), (0, 1, 1)):
            self.refused(1, "mark", card.with_marks, [(0, 2), thing, (0, 2)])
        self.refused(0, "double", card.with_marks, [(1, 3), None])
        self.refused(1, "double", card.with_marks, ((0, 2), [0, 1]))
        self.refused(2, "double", card.with_marks, [[0, 2], (0, 3), (0, 2)])
        self.refused(0, "mark", Card.of_words("ddoo").with_marks, [(0, 1)])

    def test_without_marks(self):
        card, mark = example(), [1, 3]
        marks = [mark]
        less = card.without_marks(marks)
        mark[0] = 0
        self.assertEqual(less, Card.of_words(*WORDS, marks=[(0, 1)]))
        self.assertEqual(card.without_marks(((1, 3), (0, 1))), card.unmarked())
        self.assertEqual((card, card.without_marks(()), card.without_marks([])), (example(),) * 3)

    def test_without_marks_refused(self):
        card = Card.of_words(*WORDS, marks=[(0, 1), (1, 3), (1, 1)])
        for thing in NO_SEQUENCES:
            self.refused(0, "marks", card.without_marks, thing)
        for thing in (*NO_SEQUENCES, (2, 1), (0, 2), (0, True), (True, 1), (0,), (0, 1, 1)):
            self.refused(1, "mark", card.without_marks, [(0, 1), thing, (0, 1)])
        self.refused(1, "double", card.without_marks, [(0, 1), [0, 1], None])
        self.refused(0, "mark", card.without_marks, [(0, 2), (0, 2)])
        self.refused(0, "mark", card.unmarked().without_marks, [(0, 1)])

    def test_part(self):
        card = Card.of_words("ddoo", "dodo", "ddoo", "dodo", marks=[(0, 1), (1, 2), (2, 1), (2, 2)])
        self.assertEqual(card.part(0, 3), card)
        self.assertEqual(card.part(1, 1), Card.of_words("dodo"))
        self.assertEqual(card.part(1, 2), Card.of_words("dodo", "ddoo", marks=[(0, 2)]))
        self.assertEqual(card.part(1, 3), Card.of_words("dodo", "ddoo", "dodo", marks=[(0, 2), (1, 1), (1, 2)]))
        self.assertEqual(card.part(0, 1), Card.of_words("ddoo", "dodo", marks=[(0, 1)]))

    def test_part_refused(self):
        card = Card.of_words("ddoo", "dodo", "ddoo")
        for thing in (*NO_NUMBERS, -1, 3):
            with self.subTest(thing):
                self.raises(NoColumn, {"column": thing}, card.part, thing, 2)
                self.raises(NoColumn, {"column": thing}, card.part, thing, None)
                self.raises(NoColumn, {"column": thing}, card.part, 0, thing)
        self.raises(NoColumn, {"column": 1}, card.part, 2, 1)

    def test_beside(self):
        one = Card.of_words("ddoo", "dodo", marks=[(0, 2)])
        other = Card.of_words("dodo", "ddoo", marks=[(0, 1)])
        self.assertEqual(one.beside(other), Card.of_words("ddoo", "dodo", "dodo", "ddoo", marks=[(0, 2), (2, 1)]))
        slits = [2, 1]
        card = one.beside(other, slits=slits)
        slits.clear()
        self.assertEqual(card.marks, ((0, 2), (1, 1), (1, 2), (2, 1)))
        self.assertEqual((card.part(0, 1), card.part(2, 3)), (one, other))
        self.assertEqual(one.beside(one, slits=(1,)).marks, ((0, 2), (1, 1), (2, 2)))

    def test_beside_up_to_twelve(self):
        six = Card.of_words(*["ddoo"] * 6, marks=[(4, 1)])
        self.assertEqual(six.beside(six, slits=[1, 2]).marks, ((4, 1), (5, 1), (5, 2), (10, 1)))
        self.assertEqual(six.beside(six).width, 12)
        self.refused(0, "columns", six.beside, Card.of_words(*["ddoo"] * 7))

    def test_beside_refused(self):
        card = Card.of_words("dddooo", "dddooo")
        for thing in (None, True, "dddooo", Column("dddooo"), columns_of("dddooo"), Anything()):
            self.refused(0, "card", card.beside, thing, slits=None)
        self.refused(0, "columns", card.beside, Card.of_words(*["do"] * 11), slits=None)
        self.refused(2, "size", card.beside, Card.of_words("do"), slits=None)
        for thing in NO_SEQUENCES:
            self.refused(0, "marks", card.beside, card, slits=thing)
        for thing in (*NO_NUMBERS, 0, 5, -1):
            self.refused(0, "mark", card.beside, card, slits=[thing])
            self.refused(2, "mark", card.beside, card, slits=(1, 4, thing, 1))
        self.refused(2, "double", card.beside, card, slits=[3, 1, 3, None])
        self.refused(0, "mark", Card.of_words("do").beside, Card.of_words("do"), slits=[1])

    def test_slits_go_by_keyword(self):
        with self.assertRaises(TypeError):
            example().beside(example(), [1])
