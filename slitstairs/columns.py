"""One column of a card: a staircase of steps down (d) and out (o)."""

from slitstairs.errors import BadBoundary, BadColumn, BadHeights

MOST_SIZE = 6


def is_number(thing):
    """Tell whether `thing` is a whole number."""
    return isinstance(thing, int) and not isinstance(thing, bool)


def is_whole(thing, low, high):
    """Tell whether `thing` is a whole number from `low` to `high`."""
    return is_number(thing) and low <= thing <= high


def is_sequence(thing):
    """Tell whether `thing` is a list or a tuple."""
    return isinstance(thing, (list, tuple))


def word_fault(thing):
    """Return None if `thing` is the word of a column, else what is wrong with it."""
    if not isinstance(thing, str) or not 2 <= len(thing) <= 2 * MOST_SIZE:
        return "word"
    if not all([letter in ("d", "o") for letter in thing]):
        return "word"
    if thing.count("d") != thing.count("o"):
        return "count"
    for boundary in range(len(thing)):
        ahead = thing[:boundary]
        if ahead.count("o") > ahead.count("d"):
            return "below"
    return None


def heights_fault(heights):
    """Return None if `heights` are those of a column, else the index and what is wrong there."""
    if not is_sequence(heights) or not 3 <= len(heights) <= 2 * MOST_SIZE + 1:
        return (0, "heights")
    if len(heights) % 2 == 0:
        return (0, "heights")
    for index, height in enumerate(heights):
        if not is_number(height):
            return (index, "number")
        if index == 0 and height != 0:
            return (index, "start")
        if index > 0 and abs(height - heights[index - 1]) != 1:
            return (index, "step")
        if height < 0:
            return (index, "below")
    if heights[-1] != 0:
        return (len(heights) - 1, "end")
    return None


def common_steps(one, other):
    """Return the steps at which two columns of one size, side by side, have a common cell."""
    heights = one.heights
    others = other.heights
    return tuple([
        step for step, letter in enumerate(one.word)
        if letter == other.word[step] and heights[step] == others[step]
    ])


class Column:
    """A column, told by the word of its letters from the wall to the floor."""

    def __init__(self, word):
        fault = word_fault(word)
        if fault is not None:
            raise BadColumn(fault)
        self.word = word
        self.size = word.count("d")

    @staticmethod
    def of_heights(heights):
        """Return the column that has these heights at its boundaries."""
        fault = heights_fault(heights)
        if fault is not None:
            raise BadHeights(fault[0], fault[1])
        return Column("".join([
            "d" if heights[step] < heights[step + 1] else "o"
            for step in range(len(heights) - 1)
        ]))

    def many(self, letter, boundary):
        """Return how many steps of this letter lie ahead of a boundary."""
        if not is_whole(boundary, 0, len(self.word)):
            raise BadBoundary(boundary)
        return self.word[:boundary].count(letter)

    def place(self, boundary):
        """Return (x, y): how far a boundary is out from the wall and up from the floor."""
        return (self.many("o", boundary), self.size - self.many("d", boundary))

    def height(self, boundary):
        """Return how far a boundary is from the edge x + y = size."""
        return self.many("d", boundary) - self.many("o", boundary)

    @property
    def places(self):
        """The places of all boundaries."""
        # Worked out of the heights: `place` is also an attribute of errors, so no property calls it.
        return tuple([
            ((boundary - height) // 2, self.size - (boundary + height) // 2)
            for boundary, height in enumerate(self.heights)
        ])

    @property
    def heights(self):
        """The heights of all boundaries."""
        found = [0]
        for letter in self.word:
            found.append(found[-1] + (1 if letter == "d" else -1))
        return tuple(found)

    @property
    def runs(self):
        """The runs in order, each as (letter, first step, how many steps)."""
        found = []
        first = 0
        for boundary in range(1, len(self.word) + 1):
            if boundary == len(self.word) or self.word[boundary] != self.word[first]:
                found.append((self.word[first], first, boundary - first))
                first = boundary
        return tuple(found)

    @property
    def creases(self):
        """The creases in order, each as (boundary, kind)."""
        return tuple([
            (boundary, "hollow" if self.word[boundary] == "o" else "ridge")
            for boundary in range(1, len(self.word))
            if self.word[boundary] != self.word[boundary - 1]
        ])

    @property
    def hollows(self):
        """How many hollows the column has."""
        return len([boundary for boundary, kind in self.creases if kind == "hollow"])

    @property
    def ridges(self):
        """How many ridges the column has."""
        return len([boundary for boundary, kind in self.creases if kind == "ridge"])

    def mirrored(self):
        """Return the column with wall and floor exchanged."""
        return Column("".join(["o" if letter == "d" else "d" for letter in self.word[::-1]]))

    def __eq__(self, other):
        return isinstance(other, Column) and self.word == other.word

    def __str__(self):
        return str(self.word)

    def __len__(self):
        return len(self.word)

    def __iter__(self):
        return iter(self.word)
