"""Measures: which sizes must be measured to know whether all goes together."""

from fitwhatever.errors import NoSize
from fitwhatever.margins import chain_sums, find_parting, sum_split
from fitwhatever.numbers import ZERO, plus
from fitwhatever.stocks import Stock


def parted_by(assembly, names):
    """Two makings alike in these sizes, of which the first goes together and the second doesn't; None without any."""
    sizes = assembly.stock().sizes()
    if any([name not in names_of(sizes) for name in names]):
        raise NoSize("there is no such size")
    left_out = Stock([size for size in sizes if size.name not in names])
    return parted_without(assembly, chain_sums(assembly.gaps()), left_out)


def to_measure(assembly):
    """The names of the sizes to be measured, in the stock's order."""
    sums = chain_sums(assembly.gaps())
    told = []
    for size in assembly.stock().sizes():
        # Where two rows of sizes settle it, those that are in both do. So a size is needed just where all others
        # don't settle it.
        if parted_without(assembly, sums, Stock([size])) is not None:
            told.append(size.name)
    return told


def names_of(sizes):
    """The sizes' own names."""
    return [size.name for size in sizes]


def parted_without(assembly, sums, left_out):
    """Two makings that part, alike in all sizes but those left out; None where there are none."""
    names = left_out.names()
    splits = [sum_split(a, names) for a in sums]
    # A sum without these names is the same by both makings.
    splits = [split for split in splits if len(split[0]) > 0]
    worsts = [(plus(split[1][0], left_out.lowest((ZERO, split[0]))), split[1][1]) for split in splits]
    found = find_parting(worsts, assembly.gaps(), assembly.stock())
    if found is None:
        return None
    breaking = dict(found[0])
    breaking.update(left_out.lowest_at((ZERO, splits[found[1]][0])))
    return (found[0], breaking)
