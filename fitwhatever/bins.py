"""Bins: two sizes sorted into bins of equal width, so that each pair of bins always goes together."""

from fitwhatever.errors import NoBins
from fitwhatever.margins import chain_sums, margins_of
from fitwhatever.numbers import is_whole, lowest_terms, minus, plus, times

MOST_BINS = 30


def bin_bounds(size, many, k):
    """The bounds of bin k, when a size is cut into so many bins."""
    refuse_count(many)
    if not is_whole(k) or not 0 <= k < many:
        raise NoBins("bins are numbered from 0 to one less than their count")
    return (cut_of(size, many, k), cut_of(size, many, k + 1))


def with_bins(assembly, one, other, many, k, turned=False):
    """A new assembly in which two sizes have the bounds of the bins that go together."""
    sizes = sizes_to_cut(assembly, one, other)
    first = bin_bounds(sizes[0], many, k)
    second = bin_bounds(sizes[1], many, partner_of(many, k, turned))
    return assembly.with_bounds(one, first[0], first[1]).with_bounds(other, second[0], second[1])


def bins_of(assembly, one, other, most, turned=False):
    """The least count of bins, up to a most, for which each pair always goes together."""
    sizes = sizes_to_cut(assembly, one, other)
    refuse_count(most)
    ends = {one: ends_alone(sizes[0]), other: ends_alone(sizes[1])}
    margins = margins_of(chain_sums(assembly.gaps()), assembly.stock(), ends)
    for many in range(1, most + 1):
        if not any([breaks_a_pair(margin[0], margin[1][one], margin[1][other], many, turned) for margin in margins]):
            return many
    raise NoBins("no count of bins will do")


def refuse_count(many):
    """Refuse what is no count of bins."""
    if not is_whole(many) or not 1 <= many <= MOST_BINS:
        raise NoBins("there are one to thirty bins")


def sizes_to_cut(assembly, one, other):
    """The two sizes of these names, refused where they can't be sorted into bins together."""
    if one == other:
        raise NoBins("two sizes are sorted into bins")
    return (size_to_cut(assembly, one), size_to_cut(assembly, other))


def size_to_cut(assembly, name):
    """The size of this name, refused where there is none, or it has shifts."""
    for size in assembly.stock().sizes():
        if size.name == name and len(size.shifts) == 0:
            return size
    raise NoBins("there is no such size without shifts")


def partner_of(many, k, turned):
    """The number of the other size's bin that goes with bin k."""
    return many - 1 - k if turned else k


def cut_of(size, many, k):
    """Where bin k begins, and the one ahead of it ends."""
    return plus(size.least, times(minus(size.most, size.least), lowest_terms(k, many)))


def ends_alone(size):
    """Bounds by which a size is just its least, and just its most."""
    return [(size.least, size.least), (size.most, size.most)]


def breaks_a_pair(rest, one, other, many, turned):
    """Whether a margin comes below 0 by some pair of bins: of what the sizes add at their ends, and of the rest."""
    for k in range(many):
        worth = bin_worth(one, many, k) + bin_worth(other, many, partner_of(many, k, turned))
        if rest * many + worth < 0:
            return True
    return False


def bin_worth(ends, many, k):
    """The least that bin k of a size adds, times the count of bins, so that it is whole: at one of its two cuts."""
    cuts = [ends[0] * (many - at) + ends[1] * at for at in (k, k + 1)]
    return min(cuts)
