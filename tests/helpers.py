"""What several test files use."""

from fractions import Fraction
from itertools import product
from math import gcd

NO_NUMBERS = (True, False, None, "0", "1", "", 1.0, (1,), [1], {}, b"1")
NO_SEQUENCES = (None, True, 3, "do", b"do", {}, {1: 2}, {1}, range(2), iter([]))


class Anything:
    """A thing that says of itself that it equals everything."""

    def __eq__(self, other):
        return True


def all_words(size):
    """The words of a size in order, found by going through all rows of letters."""
    found = []
    for letters in product("do", repeat=2 * size):
        word = "".join(letters)
        heights = heights_of(word)
        if min(heights) == 0 and heights[-1] == 0:
            found.append(word)
    return found


def heights_of(word):
    heights = [0]
    for letter in word:
        heights.append(heights[-1] + {"d": 1, "o": -1}[letter])
    return heights


class Raises:
    """Mixed into test cases: asks for an error with just these attributes, in their order."""

    def raises(self, error, attributes, call, *args, **more):
        with self.assertRaises(error) as caught:
            call(*args, **more)
        self.assertIs(caught.exception.__class__, error)
        told = vars(caught.exception)
        self.assertEqual(list(told), list(attributes))
        for name, value in attributes.items():
            self.assertEqual(told[name], value)
            self.assertIs(told[name].__class__, value.__class__)


def crossed(word):
    """The places of a word's boundaries, as (x, y)."""
    return [(word[:t].count("o"), len(word) // 2 - word[:t].count("d")) for t in range(len(word) + 1)]


def slow_rank(rows):
    """The rank of rows of whole numbers, worked out with fractions."""
    rows = [[Fraction(number) for number in row] for row in rows]
    rank = 0
    for place in range(len(rows[0]) if rows else 0):
        pivots = [row for row in rows[rank:] if row[place]]
        if not pivots:
            continue
        pivot = pivots[0]
        rows.remove(pivot)
        rows.insert(rank, pivot)
        for k, row in enumerate(rows):
            if k > rank and row[place]:
                times = row[place] / pivot[place]
                rows[k] = [number - times * other for number, other in zip(row, pivot)]
        rank += 1
    return rank


def is_lowest(numbers):
    return any(numbers) and gcd(*numbers) == 1 and next(number for number in numbers if number) > 0


def fraction_of(ratio):
    return Fraction(ratio.top, ratio.bottom)
