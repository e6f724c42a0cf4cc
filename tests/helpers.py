"""What several test files use."""

import random
from fractions import Fraction
from functools import lru_cache
from itertools import product
from math import gcd, lcm

NO_NUMBERS = (True, False, None, "0", "1", "", 1.0, (1,), [1], {}, b"1")
NO_WORDS = (*NO_NUMBERS, [], ("do",), "d", "dd", "od", "doo", "ddooX", "dodododododo", "do" * 5, "oddo", "Do", " do")
NO_SEQUENCES = (None, True, 3, "do", b"do", {}, {1: 2}, {1}, range(2), iter([]))


class Anything:
    """A thing that says of itself that it equals everything."""

    def __eq__(self, other):
        return True


def all_words(size):
    """The words of a size in order, found by going through all rows of letters."""
    found = []
    for letters in product("do", repeat=2 * size):
        word = "".join(letters)
        heights = heights_of(word)
        if min(heights) == 0 and heights[-1] == 0:
            found.append(word)
    return found


def heights_of(word):
    heights = [0]
    for letter in word:
        heights.append(heights[-1] + {"d": 1, "o": -1}[letter])
    return heights


class Raises:
    """Mixed into test cases: asks for an error with just these attributes, in their order."""

    def raises(self, error, attributes, call, *args, **more):
        with self.assertRaises(error) as caught:
            call(*args, **more)
        self.assertIs(caught.exception.__class__, error)
        told = vars(caught.exception)
        self.assertEqual(list(told), list(attributes))
        for name, value in attributes.items():
            self.assertEqual(told[name], value)
            self.assertIs(told[name].__class__, value.__class__)


def crossed(word):
    """The places of a word's boundaries, as (x, y)."""
    return [(word[:t].count("o"), len(word) // 2 - word[:t].count("d")) for t in range(len(word) + 1)]


def slow_rank(rows):
    """The rank of rows of whole numbers, worked out with fractions."""
    rows = [[Fraction(number) for number in row] for row in rows]
    rank = 0
    for place in range(len(rows[0]) if rows else 0):
        pivots = [row for row in rows[rank:] if row[place]]
        if not pivots:
            continue
        pivot = pivots[0]
        rows.remove(pivot)
        rows.insert(rank, pivot)
        for k, row in enumerate(rows):
            if k > rank and row[place]:
                times = row[place] / pivot[place]
                rows[k] = [number - times * other for number, other in zip(row, pivot)]
        rank += 1
    return rank


def is_lowest(numbers):
    return any(numbers) and gcd(*numbers) == 1 and next(number for number in numbers if number) > 0


def fraction_of(ratio):
    return Fraction(ratio.top, ratio.bottom)


def common_of(one, other):
    """The steps at which two words, side by side, have a common cell."""
    left, right = heights_of(one), heights_of(other)
    return [t for t, letter in enumerate(one) if letter == other[t] and left[t] == right[t]]


def strip_table(words):
    """The panels' numbers of a strip of any width, found by going from cell to cell."""
    steps = len(words[0])
    commons = [common_of(*pair) for pair in zip(words, words[1:])]
    numbers = {}
    many = 0
    for cell in product(range(len(words)), range(steps)):
        if cell in numbers:
            continue
        ways = [cell]
        while ways:
            c, t = ways.pop()
            if (c, t) in numbers:
                continue
            numbers[c, t] = many
            ways += [(c, near) for near in (t - 1, t + 1) if 0 <= near < steps and words[c][near] == words[c][t]]
            ways += [(c - 1, t)] if c > 0 and t in commons[c - 1] else []
            ways += [(c + 1, t)] if c < len(words) - 1 and t in commons[c] else []
        many += 1
    return [[numbers[c, t] for t in range(steps)] for c in range(len(words))]


def strip_rows(words, letter):
    """The panels of a letter of a strip, and its equations as dicts of factors, like panels added, zeros left out."""
    table = strip_table(words)
    cells = [(c, t) for c, word in enumerate(words) for t in range(len(word)) if word[t] == letter]
    panels = sorted({table[c][t] for c, t in cells})
    found = [{table[0][-1 if letter == "o" else 0]: 1}]

    def row(*parts):
        sums = {}
        for c, end, sign in parts:
            for t in range(end):
                if words[c][t] == letter:
                    sums[table[c][t]] = sums.get(table[c][t], 0) + sign
        return {panel: factor for panel, factor in sums.items() if factor}

    found += [row((c, len(word), 1)) for c, word in enumerate(words)]
    found += [row((c, t, 1), (c + 1, t, -1)) for c in range(len(words) - 1) for t in common_of(words[c], words[c + 1])]
    return panels, found


def led_known(rows, known):
    """All that is known in the end, step by step."""
    known = set(known)
    while True:
        new = {panel for row in rows for panel in row if panel not in known and set(row) - known == {panel}}
        if not new:
            return known
        known |= new


def slow_reduced(rows):
    """The reduced basis of the sums of rows, worked out with fractions, each row as it is to be returned."""
    rows = [[Fraction(number) for number in row] for row in rows]
    rank = 0
    for place in range(len(rows[0]) if rows else 0):
        pivots = [k for k in range(rank, len(rows)) if rows[k][place]]
        if not pivots:
            continue
        rows[rank], rows[pivots[0]] = rows[pivots[0]], rows[rank]
        rows[rank] = [number / rows[rank][place] for number in rows[rank]]
        for k, row in enumerate(rows):
            if k != rank and row[place]:
                rows[k] = [number - row[place] * other for number, other in zip(row, rows[rank])]
        rank += 1
    found = []
    for row in rows[:rank]:
        bottom = lcm(*[number.denominator for number in row])
        whole = [int(number * bottom) for number in row]
        found.append(tuple(number // gcd(*whole) for number in whole))
    return tuple(found)


def slow_solutions(rows, many):
    """Rows of numbers that span all solutions of so many unknowns."""
    reduced = slow_reduced(rows) if rows else ()
    places = [next(k for k, number in enumerate(row) if number) for row in reduced]
    found = []
    for free in range(many):
        if free not in places:
            numbers = [Fraction(int(k == free)) for k in range(many)]
            for place, row in zip(places, reduced):
                numbers[place] = -Fraction(row[free], row[place])
            found.append(numbers)
    return found


@lru_cache(None)
def slow_follows(words):
    """Whether a strip, a tuple of words, follows."""
    return all(led_known(rows, ()) == set(panels) for panels, rows in (strip_rows(words, k) for k in "do"))


@lru_cache(None)
def slow_opens(words):
    """Whether a strip, a tuple of words, only opens."""
    for panels, rows in (strip_rows(words, letter) for letter in "do"):
        table = [[row.get(panel, 0) for panel in panels] for row in rows]
        if slow_rank(table) < len(panels):
            return False
    return True


def slow_verdict(words, verdict):
    if verdict in ("follows", "stuck"):
        return slow_follows(words) == (verdict == "follows")
    if verdict in ("opens", "sways"):
        return slow_opens(words) == (verdict == "opens")
    return slow_opens(words) and not slow_follows(words)


def slow_writes(book, strip):
    """Whether a book writes a strip, by going along the arrows."""
    rooms = {book.start}
    for word in strip:
        rooms = {last for first, told, last in book.arrows if first in rooms and told == word}
    return bool(rooms & set(book.ends))


def all_strips(words, width):
    """All strips of these words of a width, ascending."""
    return list(product(sorted(words), repeat=width))


def some_book(chance, size, rooms, most, make):
    """A book of random arrows, made by `make`."""
    words = all_words(size)
    arrows = {(chance.randrange(rooms), chance.choice(words), chance.randrange(rooms)) for _ in range(most)}
    ends = chance.sample(range(rooms), chance.randrange(rooms + 1))
    return make(size, rooms, chance.randrange(rooms), chance.sample(sorted(arrows), len(arrows)), ends)


def small_strips():
    for size, width in ((1, 1), (1, 2), (1, 5), (2, 1), (2, 2), (2, 5), (3, 1), (3, 2), (3, 3), (4, 1), (4, 2)):
        yield from product(all_words(size), repeat=width)


def wide_strips():
    chance = random.Random(7)
    for size in (2, 3, 4, 4, 4):
        words = all_words(size)
        for width in (4, 6, 9, 13, 20):
            yield tuple(chance.choice(words) for _ in range(width))
            few = chance.sample(words, 2)
            yield tuple(chance.choice(few) for _ in range(width))


def slow_misses(wish, c, word):
    """The wished places of column c whose cells miss with a word, by step, and none for cells without a wish."""
    found = []
    for t, letter in enumerate(word):
        ahead = word[:t].count(letter)
        view, rows = ("front", wish.front) if letter == "d" else ("top", wish.top)
        entry = rows[c][ahead]
        if entry is not None and entry != wish.printed.inks[c][t]:
            found.append((view, c, ahead))
    return found


def slow_granted(wish, c):
    """The granted words of column c, found among all words."""
    return [word for word in all_words(wish.size) if not slow_misses(wish, c, word)]


def some_wish(chance, size, width, wished, inks, make_print, make_wish):
    """A wish of random inks; of a hundred entries as many as told are wished."""
    def rows(many, thing):
        return [[thing() for _ in range(many)] for _ in range(width)]
    printed = make_print(rows(2 * size, lambda: chance.randrange(inks)))
    front, top = (rows(size, lambda: chance.randrange(inks) if chance.randrange(100) < wished else None)
                  for _ in range(2))
    return make_wish(printed, front, top)


def kind_wish(chance, size, width, wished, inks, make_print, make_wish):
    """A wish that grants some card: of a hundred entries that this card shows as many as told are wished."""
    printed = make_print([[chance.randrange(inks) for _ in range(2 * size)] for _ in range(width)])
    words = [chance.choice(all_words(size)) for _ in range(width)]
    front, top = ([[ink if chance.randrange(100) < wished else None for ink, told in zip(row, word) if told == letter]
                   for row, word in zip(printed.inks, words)] for letter in "do")
    return make_wish(printed, front, top)
