"""Shapes: what following makes of a strip, told by the runs of its last column alone."""

from slitstairs.books import check_strip, check_strip_word
from slitstairs.columns import Column, common_steps
from slitstairs.equations import equation_of, letter_cells
from slitstairs.errors import BadStrip


def run_row(word, letter):
    """Return for each step of a word the number of its run among those of a letter, None for other letters."""
    found = []
    many = 0
    for t, step in enumerate(word):
        if step == letter and word[:t][-1:] != letter:
            many += 1
        found.append(many - 1 if step == letter else None)
    return found


def how_many_runs(word, letter):
    """Return how many runs of a letter a word has."""
    return len([t for t, step in enumerate(word) if step == letter and word[:t][-1:] != letter])


def first_equations(word, letter):
    """Return the equations of a letter of a strip of one column, about its runs."""
    row = run_row(word, letter)
    # The floor is the last run of letter o, the wall the first one of letter d.
    boards = row[-1] if letter == "o" else row[0]
    return [
        equation_of(("boards",), [boards], []),
        equation_of(("column", 0), letter_cells(word, row, letter, len(word)), []),
    ]


class Seam:
    """Where a column is added to a strip: the unknowns of one letter are the runs of the last column so
    far, behind them the runs of the new column that are in none of their panels."""

    def __init__(self, left, right, letter):
        left_row = run_row(left, letter)
        right_row = run_row(right, letter)
        common = common_steps(Column(left), Column(right))
        self.old = how_many_runs(left, letter)
        led = {right_row[t]: left_row[t] for t in common if right[t] == letter}
        many = how_many_runs(right, letter)
        new = [run for run in range(many) if run not in led]
        for k, run in enumerate(new):
            led[run] = self.old + k
        self.total = self.old + len(new)
        # For each run of the new column its unknown.
        self.unknowns = tuple([led[run] for run in range(many)])
        new_row = [None if run is None else led[run] for run in right_row]
        self.equations = [equation_of(("column", 1), letter_cells(right, new_row, letter, len(right)), [])]
        for t in common:
            ahead = letter_cells(left, left_row, letter, t)
            self.equations.append(equation_of(("cell", 0, t), ahead, letter_cells(right, new_row, letter, t)))


def lot_mask(places):
    """Return the number whose bits are these places."""
    found = 0
    for place in places:
        found = found | (1 << place)
    return found


def lot_places(mask):
    """Return the places of the bits of a number, ascending."""
    return tuple([place for place in range(mask.bit_length()) if (mask >> place) & 1])


def borne_masks(equations):
    """Return for each equation the mask of what it bears."""
    return [lot_mask([place for place, _ in equation.factors]) for equation in equations]


def led_along(masks, known):
    """Return all that is known in the end if equations that bear these masks are followed."""
    ahead = None
    while known != ahead:
        ahead = known
        for mask in masks:
            missing = mask & ~known
            # A power of 2: just one thing is missing.
            if missing & (missing - 1) == 0:
                known = known | missing
    return known


def first_entries(word, letter):
    """Return the entries of a letter of the shape of one column."""
    masks = borne_masks(first_equations(word, letter))
    many = how_many_runs(word, letter)
    return tuple([(lot_places(led_along(masks, lot)), True) for lot in range(1 << many)])


def entries_after(entries, left, right, letter):
    """Return the entries of a letter when a column is added behind the column `left`."""
    seam = Seam(left, right, letter)
    masks = borne_masks(seam.equations)
    olds = [lot_mask(known) for known, _ in entries]
    every = (1 << seam.old) - 1
    # What has no cell in the new column must be known for the new strip's `behind`.
    hidden = every & ~lot_mask(seam.unknowns)
    found = []
    for lot in range(1 << len(seam.unknowns)):
        known = lot_mask([seam.unknowns[run] for run in lot_places(lot)])
        ahead = None
        while known != ahead:
            ahead = known
            known = led_along(masks, known | olds[known & every])
        runs = [run for run, place in enumerate(seam.unknowns) if (known >> place) & 1]
        found.append((tuple(runs), entries[known & every][1] and hidden & ~known == 0))
    return tuple(found)


def has_all(entry, word, letter):
    """Tell whether an entry says that all runs of a letter of a word, and all panels behind, are known."""
    known, behind = entry
    return behind and len(known) == how_many_runs(word, letter)


class Shape:
    """The last word of a strip and, for each letter, for each lot of its runs, what following leads to."""

    def __init__(self, word, outs, downs):
        self.word = word
        self.outs = outs
        self.downs = downs

    @property
    def follows(self):
        """Whether the strip follows."""
        return has_all(self.outs[0], self.word, "o") and has_all(self.downs[0], self.word, "d")

    @property
    def is_lost(self):
        """Whether no strip that begins with this one follows."""
        return not (self.outs[-1][1] and self.downs[-1][1])

    def __eq__(self, other):
        return (
            isinstance(other, Shape)
            and self.word == other.word
            and self.outs == other.outs
            and self.downs == other.downs
        )


def check_next_word(ahead, word):
    """Raise BadStrip if a strip that ends with the word `ahead` cannot go on with this word."""
    check_strip_word(0, word)
    if len(word) != len(ahead):
        raise BadStrip(0, "size")


def shape_after(shape, word):
    """Return the shape of a strip of this shape with one more column."""
    check_next_word(shape.word, word)
    return Shape(
        word,
        entries_after(shape.outs, shape.word, word, "o"),
        entries_after(shape.downs, shape.word, word, "d"),
    )


def shape_of(strip):
    """Return the shape of a strip."""
    check_strip(strip)
    shape = Shape(strip[0], first_entries(strip[0], "o"), first_entries(strip[0], "d"))
    for word in strip[1:]:
        shape = shape_after(shape, word)
    return shape
