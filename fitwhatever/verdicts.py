"""Verdicts: whether an assembly goes together always, never or by some makings, each with its paper."""

from fitwhatever.chains import tight_chain
from fitwhatever.numbers import ZERO
from fitwhatever.tables import table_of
from fitwhatever.weighings import most_of


def verdict_of(assembly):
    """The verdict of an assembly: always, never or some, with its paper."""
    gaps = assembly.gaps()
    stock = assembly.stock()
    table = table_of(gaps, stock)
    if table is not None:
        return ("always", table)
    # Without gaps there is a table: so there is a node, and any target will do to find a making and places.
    node = gaps[0][0]
    told = most_of((node, node, (ZERO, ())), gaps, stock)
    if told[0] == "none":
        return ("never", told[1])
    tight = tight_chain(gaps, stock)
    return ("some", told[2], told[3], tight[2], tight[0])
