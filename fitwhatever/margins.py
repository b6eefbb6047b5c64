"""Margins: how far the chains of an assembly stay from breaking, while some of its sizes are told and others aren't.

By a making all goes together just where no chain's sum is below 0, and always just where none has a least below 0; and
such a least is added up of what each size gives by itself.
"""

from fitwhatever.chains import chain_sum, chains_of
from fitwhatever.numbers import MINUS_ONE, ZERO, common_bottom, is_less, plus
from fitwhatever.stocks import least_worth, size_corners, size_with_bounds, spread, worth_of
from fitwhatever.sums import sum_times
from fitwhatever.weighings import most_of

# A node for targets in which no place counts.
NODE = ("x", "")


def chain_sums(gaps):
    """The sums of all chains, each once."""
    sums = {}
    for chain in chains_of(gaps):
        sums[chain_sum(gaps, chain)] = True
    return list(sums)


def margins_of(sums, stock, bounds):
    """The margins of sums that may come below 0 by some of the bounds, a dict from names to lists of (least, most)."""
    margins = [margin_of(a, stock, bounds) for a in sums]
    return [margin for margin in margins if least_of(margin) < 0]


def margin_of(a, stock, bounds):
    """The margin of a sum: what it comes to at least, (without the sizes of the bounds, what each of these adds)."""
    factors = dict(a[1])
    rest = a[0]
    worths = {}
    for size in stock.sizes():
        if size.name in bounds:
            narrowed = [size_with_bounds(size, least, most) for least, most in bounds[size.name]]
            worths[size.name] = [least_worth(own, factors) for own in narrowed]
        else:
            rest = plus(rest, least_worth(size, factors))
    return whole_margin(rest, worths)


def whole_margin(rest, worths):
    """A margin (rest, worths by names, scale) in whole numbers, all times the scale, as these are quickly added."""
    numbers = [rest]
    for own in worths.values():
        numbers.extend(own)
    scale = common_bottom(numbers)
    whole = {}
    for name, own in worths.items():
        whole[name] = [worth[0] * (scale // worth[1]) for worth in own]
    return (rest[0] * (scale // rest[1]), whole, scale)


def least_of(margin):
    """What a margin comes to where each size adds the least."""
    return margin[0] + sum([min(worths) for worths in margin[1].values()])


def margin_at(margin, steps):
    """What a margin comes to, times its scale, by these numbers of worths, a dict by names."""
    return margin[0] + sum([margin[1][name][k] for name, k in steps.items()])


def broken_by(margins, steps):
    """The first margin that is below 0 by these numbers of bounds, a dict by names; None where none is."""
    for margin in margins:
        if margin_at(margin, steps) < 0:
            return margin
    return None


def corner_margin(a, stock):
    """The margin of a sum of the stock's names, with what each size adds by each of its corners."""
    factors = dict(a[1])
    worths = {}
    for size in stock.sizes():
        worths[size.name] = [worth_of(corner, factors) for corner in size_corners(size)]
    return whole_margin(a[0], worths)


def corner_steps(stock):
    """The stock's corners, in their order, as numbers of the corners of each size."""
    told = [{}]
    for size in stock.sizes():
        told = spread(told, [{size.name: k} for k in range(len(size_corners(size)))])
    return told


def sum_split(a, names):
    """The factors of a sum that are of these names, and the sum without them."""
    own = tuple([pair for pair in a[1] if pair[0] in names])
    return (own, (a[0], tuple([pair for pair in a[1] if pair[0] not in names])))


def find_parting(worsts, gaps, stock):
    """A making that keeps the gaps, and the number of a sum that is below 0 by it; None where there is none."""
    for k, a in enumerate(worsts):
        if is_less(stock.lowest(a), ZERO):
            told = most_of((NODE, NODE, sum_times(a, MINUS_ONE)), gaps, stock)
            if told[0] == "none":
                return None
            if is_less(ZERO, told[1]):
                return (told[2], k)
    return None
