"""The checker of verdicts: whether an assembly goes together always, never or by some makings."""

from fitwhatever.chains import chain_sum, is_chain
from fitwhatever.numbers import ZERO, is_less
from fitwhatever.sums import sum_at
from fitwhatever.tablecheck import table_holds
from fitwhatever.weighcheck import kept_by, never_holds

# How long a verdict of each word is.
LENGTHS = {"always": 2, "never": 2, "some": 5}


def verdict_holds(assembly, verdict):
    """Whether a verdict's paper shows what it tells of the assembly."""
    gaps = assembly.gaps()
    stock = assembly.stock()
    if len(verdict) == 0 or len(verdict) != LENGTHS.get(verdict[0]):
        return False
    if verdict[0] == "always":
        return table_holds(gaps, stock, verdict[1])
    if verdict[0] == "never":
        return never_holds(gaps, stock, verdict[1])
    return kept_by(gaps, stock, verdict[1], verdict[2]) and is_broken(gaps, stock, verdict[3], verdict[4])


def is_broken(gaps, stock, breaking, chain):
    """Whether by a making that keeps the stock the sum of a chain is below 0."""
    if not is_chain(gaps, chain) or not stock.keeps(breaking):
        return False
    return is_less(sum_at(chain_sum(gaps, chain), breaking), ZERO)
