"""Reaches: how near and how far two faces can stand while all goes together."""

from fitwhatever.assemblies import gap_between
from fitwhatever.errors import NoFit, NoJoint, NoMaking
from fitwhatever.numbers import MINUS_ONE, times
from fitwhatever.places import least_places
from fitwhatever.stocks import Stock
from fitwhatever.sums import sum_at
from fitwhatever.weighings import most_of


def reach_of(assembly, one, other):
    """The least and the most of the other face's place less the one's, each None or with its paper."""
    ends = ends_of_reach(assembly, one, other)
    gaps = assembly.gaps()
    stock = assembly.stock()
    most = told_most(gap_between(ends[0], ends[1]), gaps, stock)
    back = told_most(gap_between(ends[1], ends[0]), gaps, stock)
    return (turned_about(back), most)


def reach_at(assembly, making, one, other):
    """The least and the most by one making, each None or a number."""
    ends = ends_of_reach(assembly, one, other)
    if not assembly.stock().keeps(making):
        raise NoMaking("the making does not keep the stock")
    gaps = assembly.gaps()
    # It refuses a making by which all doesn't go together.
    least_places(gaps, making)
    made = [made_link(gap, making) for gap in gaps]
    most = told_most(made_link(gap_between(ends[0], ends[1]), making), made, Stock([]))
    back = told_most(made_link(gap_between(ends[1], ends[0]), making), made, Stock([]))
    return (value_of(turned_about(back)), value_of(most))


def ends_of_reach(assembly, one, other):
    """Both faces as place_of tells them, refused where they are on two axes."""
    ends = (assembly.place_of(one), assembly.place_of(other))
    if ends[0][0][0] != ends[1][0][0]:
        raise NoJoint("the faces are on two axes")
    return ends


def told_most(target, gaps, stock):
    """The most of a target with its paper (value, making, places, weights); None where there is none."""
    told = most_of(target, gaps, stock)
    if told[0] == "none":
        raise NoFit(None)
    return None if told[0] == "open" else told[1:]


def turned_about(most):
    """The least with its paper, from the most of the other way about."""
    return None if most is None else (times(most[0], MINUS_ONE),) + most[1:]


def made_link(link, making):
    """A link without names, as it is by a making."""
    return (link[0], link[1], (sum_at(link[2], making), ()))


def value_of(end):
    """The number of an end of a reach, without its paper."""
    return None if end is None else end[0]
