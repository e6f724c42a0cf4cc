"""What rests on what: tables, their orders, lots, rounds and chains."""

from slitstairs.columns import is_sequence, is_whole
from slitstairs.covers import cards_ahead, crossing_by, nests_by
from slitstairs.errors import BadOrder, BadTable, NoSuch, TooEarly

MOST_TABLE = 10


class Hands:
    """Chains that hold each number once, and as many numbers of which none stands on another."""

    def __init__(self, chains, together):
        self.chains = chains
        self.together = together


def rest_table(boxes):
    """Return for each box the indices of the earlier boxes on which it rests."""
    return tuple([
        tuple([on for on in range(index) if box.rests_on(boxes[on])])
        for index, box in enumerate(boxes)
    ])


def are_ascending(thing, most):
    """Tell whether `thing` is a sequence of strictly ascending whole numbers from 0 to `most`."""
    if not is_sequence(thing) or not all([is_whole(number, 0, most) for number in thing]):
        return False
    return all([thing[k] < thing[k + 1] for k in range(len(thing) - 1)])


def check_table(table):
    """Raise BadTable if `table` is no table."""
    if not is_sequence(table):
        raise BadTable(0, "table")
    if len(table) > MOST_TABLE:
        raise BadTable(MOST_TABLE, "many")
    for index, row in enumerate(table):
        if not are_ascending(row, index - 1):
            raise BadTable(index, "row")


def check_number(table, number):
    """Raise NoSuch if `number` is none of the table."""
    if not is_whole(number, 0, len(table) - 1):
        raise NoSuch(number)


def beneath_rows(table):
    """Return for each number all on which it stands, ascending."""
    found = []
    for row in table:
        found.append(sorted({number for on in row for number in [on, *found[on]]}))
    return found


def above_rows(table):
    """Return for each number all that stand on it, ascending."""
    beneath = beneath_rows(table)
    return [[other for other in range(len(table)) if number in beneath[other]] for number in range(len(table))]


def numbers_beneath(table, number):
    """Return all on which a number stands."""
    check_table(table)
    check_number(table, number)
    return tuple(beneath_rows(table)[number])


def numbers_above(table, number):
    """Return all that stand on a number."""
    check_table(table)
    check_number(table, number)
    return tuple(above_rows(table)[number])


def check_order(table, order):
    """Raise BadOrder if `order` is no order of the table."""
    if not is_sequence(order) or len(order) != len(table):
        raise BadOrder(0, "length")
    for index, number in enumerate(order):
        if not is_whole(number, 0, len(table) - 1):
            raise BadOrder(index, "number")
        if number in order[:index]:
            raise BadOrder(index, "double")


def first_early(table, order):
    """Return the first index whose number comes too early, with the least number that is missing, or None."""
    for index, number in enumerate(order):
        for on in table[number]:
            if on not in order[:index]:
                return (index, on)
    return None


def check_let(table, order):
    """Raise an error if `order` is no order of the table, or none that is let."""
    check_order(table, order)
    fault = first_early(table, order)
    if fault is not None:
        raise TooEarly(fault[0], fault[1])


def order_fault(table, order):
    """Return None if the order is let, else the first index that comes too early and what is missing there."""
    check_table(table)
    check_order(table, order)
    return first_early(table, order)


def with_number(lot, number):
    """Return an ascending lot with one number more."""
    return tuple(sorted([*lot, number]))


def next_numbers(table, lot):
    """Return the numbers, ascending, that may come next behind those of a lot."""
    return [
        number for number, row in enumerate(table)
        if number not in lot and all([on in lot for on in row])
    ]


def lots_by_length(table):
    """Return the closed lots of a table, by length, then ascending."""
    layer = [()]
    found = [()]
    for _ in table:
        layer = sorted({with_number(lot, number) for lot in layer for number in next_numbers(table, lot)})
        found.extend(list(layer))
    return found


def closed_lots(table):
    """Return all lots that have with each number all on which it rests, by length, then ascending."""
    check_table(table)
    return tuple(lots_by_length(table))


def order_leads(table):
    """Return for each closed lot (number, lot) for each number that may come next, ascending, and the lot with it."""
    return {
        lot: [(number, with_number(lot, number)) for number in next_numbers(table, lot)]
        for lot in lots_by_length(table)
    }


def order_counts(leads):
    """Return for each closed lot in how many orders the other numbers can come behind it."""
    found = {}
    for lot in list(leads)[::-1]:
        found[lot] = sum([found[led] for _, led in leads[lot]]) if leads[lot] else 1
    return found


def count_orders(table):
    """Return how many let orders there are."""
    check_table(table)
    return order_counts(order_leads(table))[()]


def let_orders(table):
    """Yield all let orders, ascending."""
    check_table(table)
    leads = order_leads(table)
    waiting = [((), ())]
    while waiting:
        order, lot = waiting.pop()
        if len(order) == len(table):
            yield order
        for number, led in leads[lot][::-1]:
            waiting.append(((*order, number), led))


def order_at(table, index):
    """Return the let order that has this number."""
    check_table(table)
    leads = order_leads(table)
    counts = order_counts(leads)
    if not is_whole(index, 0, counts[()] - 1):
        raise NoSuch(index)
    order = []
    lot = ()
    rest = index
    while leads[lot]:
        at = 0
        while rest >= counts[leads[lot][at][1]]:
            rest -= counts[leads[lot][at][1]]
            at += 1
        number, lot = leads[lot][at]
        order.append(number)
    return tuple(order)


def order_index(table, order):
    """Return the number of a let order."""
    check_table(table)
    check_let(table, order)
    leads = order_leads(table)
    counts = order_counts(leads)
    index = 0
    lot = ()
    for number in order:
        index += sum([counts[led] for other, led in leads[lot] if other < number])
        lot = with_number(lot, number)
    return index


def order_exchanges(table, one, other):
    """Return the exchanges of neighbours that lead one let order to another: for each the first index."""
    check_table(table)
    check_let(table, one)
    check_let(table, other)
    turns = {number: turn for turn, number in enumerate(other)}
    order = list(one)
    found = []
    while order != list(other):
        late = [turns[number] for number in order]
        k = 0
        while late[k] < late[k + 1]:
            k += 1
        order[k], order[k + 1] = order[k + 1], order[k]
        found.append(k)
    return tuple(found)


def table_rounds(table):
    """Return the fewest rounds in which all can be made, each number in the earliest one."""
    check_table(table)
    levels = []
    for row in table:
        levels.append(max([levels[on] + 1 for on in row], default=0))
    return tuple([
        tuple([number for number, told in enumerate(levels) if told == level])
        for level in range(max(levels, default=-1) + 1)
    ])


def longest_chain(table):
    """Return the least of the longest tuples in which each number rests on the one ahead of it."""
    check_table(table)
    many = len(table)
    lengths = {}
    for number in range(many - 1, -1, -1):
        lengths[number] = 1 + max([lengths[other] for other in range(many) if number in table[other]], default=0)
    chain = []
    left = max(list(lengths.values()), default=0)
    while left > 0:
        nexts = [number for number in range(many) if lengths[number] == left]
        chain.append([number for number in nexts if chain == [] or chain[-1] in table[number]][0])
        left -= 1
    return tuple(chain)


def table_hands(table):
    """Return the fewest chains that hold each number once, with as many numbers that show this."""
    check_table(table)
    above = above_rows(table)
    ahead_of = cards_ahead(above)
    next_of = {number: other for other, number in ahead_of.items()}
    return Hands(nests_by(next_of, len(table)), crossing_by(above, next_of, ahead_of))


def are_chains(thing, beneath):
    """Tell whether `thing` is a tuple of chains that hold each number just once."""
    if not isinstance(thing, tuple) or not all([isinstance(chain, tuple) and len(chain) > 0 for chain in thing]):
        return False
    held = [number for chain in thing for number in chain]
    if not all([is_whole(number, 0, len(beneath) - 1) for number in held]):
        return False
    if sorted(held) != list(range(len(beneath))):
        return False
    return all([chain[k] in beneath[chain[k + 1]] for chain in thing for k in range(len(chain) - 1)])


def hands_fault(table, hands):
    """Return None if the hands are the fewest of the table, else what is wrong with them."""
    check_table(table)
    beneath = beneath_rows(table)
    if not are_chains(hands.chains, beneath):
        return "chains"
    together = hands.together
    if not isinstance(together, tuple) or not are_ascending(together, len(table) - 1):
        return "together"
    if any([on in beneath[number] for number in together for on in together]):
        return "together"
    if len(together) != len(hands.chains):
        return "many"
    return None
