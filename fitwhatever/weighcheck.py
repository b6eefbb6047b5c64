"""The checkers of weighings, and of makings and places that keep gaps."""

from fitwhatever.numbers import ONE, ZERO, is_less, minus, plus
from fitwhatever.places import gap_at
from fitwhatever.sums import has_only, sum_of, sum_plus, sum_times


def weighs(target, gaps, stock, weights, value):
    """Whether the weights of the gaps, with the target, weigh the value."""
    if not are_weights(weights, gaps):
        return False
    most = most_weighed([target] + list(gaps), [ONE] + list(weights), stock)
    return most is not None and most == value


def never_holds(gaps, stock, weights):
    """Whether the weights show that no making and places keep the gaps."""
    if not are_weights(weights, gaps):
        return False
    most = most_weighed(gaps, weights, stock)
    return most is not None and is_less(most, ZERO)


def kept_by(gaps, stock, making, places):
    """Whether a making keeps the stock, and with the places all gaps."""
    return stock.keeps(making) and all([is_gap_kept(gap, making, places) for gap in gaps])


def are_weights(weights, gaps):
    """Whether there is one weight for each gap, none below 0."""
    return len(weights) == len(gaps) and not any([is_less(weight, ZERO) for weight in weights])


def most_weighed(links, weights, stock):
    """The most of all links times their weights, added; None where a place has a factor, or the stock lacks a name."""
    factors = place_factors(links, weights)
    total = sum_of(ZERO, ())
    for link, weight in zip(links, weights):
        total = sum_plus(total, sum_times(link[2], weight))
    if any([factor != ZERO for factor in factors.values()]) or not has_only(total, stock.names()):
        return None
    return stock.highest(total)


def place_factors(links, weights):
    """The places' factors in all links times their weights, added, as a dict from nodes to numbers."""
    factors = {}
    for link, weight in zip(links, weights):
        factors[link[1]] = plus(factors.get(link[1], ZERO), weight)
        factors[link[0]] = minus(factors.get(link[0], ZERO), weight)
    return factors


def is_gap_kept(gap, making, places):
    """Whether a gap isn't below 0; it is not kept where a node has no place, or a name no number."""
    if gap[0] not in places or gap[1] not in places or not has_only(gap[2], making):
        return False
    return not is_less(gap_at(gap, making, places), ZERO)
