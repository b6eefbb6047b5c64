"""Margins: how far the chains of an assembly stay from breaking, while some sizes have one or another of some bounds.

All always goes together just where no chain's sum has a least below 0; and such a least is added up of what each size
gives by itself.
"""

from fitwhatever.chains import chain_sum, chains_of
from fitwhatever.numbers import common_bottom, plus
from fitwhatever.stocks import least_worth, size_with_bounds


def chain_sums(gaps):
    """The sums of all chains, each once."""
    sums = {}
    for chain in chains_of(gaps):
        sums[chain_sum(gaps, chain)] = True
    return list(sums)


def margins_of(sums, stock, bounds):
    """The margins of sums that may come below 0 by some of the bounds, a dict from names to lists of (least, most)."""
    margins = [margin_of(a, stock, bounds) for a in sums]
    return [margin for margin in margins if least_of(margin) < 0]


def margin_of(a, stock, bounds):
    """What a sum comes to at least, times a scale: (without the sizes of the bounds, what each adds by its bounds)."""
    factors = dict(a[1])
    rest = a[0]
    worths = {}
    for size in stock.sizes():
        if size.name in bounds:
            narrowed = [size_with_bounds(size, least, most) for least, most in bounds[size.name]]
            worths[size.name] = [least_worth(own, factors) for own in narrowed]
        else:
            rest = plus(rest, least_worth(size, factors))
    return whole_margin(rest, worths)


def whole_margin(rest, worths):
    """A margin in whole numbers, as these are quickly added."""
    numbers = [rest]
    for own in worths.values():
        numbers.extend(own)
    scale = common_bottom(numbers)
    whole = {}
    for name, own in worths.items():
        whole[name] = [worth[0] * (scale // worth[1]) for worth in own]
    return (rest[0] * (scale // rest[1]), whole)


def least_of(margin):
    """What a margin comes to where each size adds the least."""
    return margin[0] + sum([min(worths) for worths in margin[1].values()])


def broken_by(margins, steps):
    """The first margin that is below 0 by these numbers of bounds, a dict by names; None where none is."""
    for margin in margins:
        if margin[0] + sum([margin[1][name][k] for name, k in steps.items()]) < 0:
            return margin
    return None
