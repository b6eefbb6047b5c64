"""Chains: gaps that lead from a node back to it, told as tuples of their numbers."""

from fitwhatever.numbers import ZERO, is_less, is_whole
from fitwhatever.sums import sum_at, sum_of, sum_plus


def nodes_of(gaps):
    """All nodes of the gaps, rising."""
    return sorted(set([gap[0] for gap in gaps] + [gap[1] for gap in gaps]))


def chains_of(gaps):
    """All chains of the gaps, each with its least number first, rising."""
    chains = []
    for first in range(len(gaps)):
        find_chains(gaps, (first,), chains)
    return chains


def find_chains(gaps, path, chains):
    """Add the chains that begin with the path, rising, to those that were found."""
    end = gaps[path[-1]][1]
    if end == gaps[path[0]][0]:
        chains.append(path)
    elif end not in [gaps[k][0] for k in path]:
        # The first number is the least, so only greater ones follow.
        for k in range(path[0] + 1, len(gaps)):
            if gaps[k][0] == end:
                find_chains(gaps, path + (k,), chains)


def is_chain(gaps, value):
    """Whether a value, whatever it is, is a chain of the gaps."""
    if not isinstance(value, tuple) or len(value) == 0:
        return False
    if not all([is_whole(k) and 0 <= k < len(gaps) for k in value]):
        return False
    lows = [gaps[k][0] for k in value]
    highs = [gaps[k][1] for k in value]
    return highs == lows[1:] + lows[:1] and len(set(lows)) == len(lows) and value[0] == min(value)


def chain_sum(gaps, chain):
    """The sum of the sums of a chain's gaps."""
    total = sum_of(ZERO, ())
    for k in chain:
        total = sum_plus(total, gaps[k][2])
    return total


def tight_chain(gaps, stock):
    """The first chain whose sum has the least least, as (chain, least, making); None without a chain."""
    tight = None
    for chain in chains_of(gaps):
        total = chain_sum(gaps, chain)
        making = stock.lowest_at(total)
        least = sum_at(total, making)
        if tight is None or is_less(least, tight[1]):
            tight = (chain, least, making)
    return tight
