"""Places: where nodes lie by a making, so that no gap is below 0."""

from fitwhatever.chains import nodes_of
from fitwhatever.errors import NoFit
from fitwhatever.numbers import ZERO, is_less, minus, plus
from fitwhatever.sums import sum_at


def gap_at(gap, making, places):
    """What a gap comes to by a making and by places."""
    return plus(minus(places[gap[1]], places[gap[0]]), sum_at(gap[2], making))


def least_places(gaps, making):
    """The least places from 0 on by which no gap is below 0, as a dict."""
    nodes = nodes_of(gaps)
    values = [sum_at(gap[2], making) for gap in gaps]
    places = {}
    raised_by = {}
    for node in nodes:
        places[node] = ZERO
    raised = None
    # Without a chain below 0 nothing rises as often as there are nodes.
    for turn in range(len(nodes) + 1):
        raised = raise_places(gaps, values, places, raised_by)
        if raised is None:
            return places
    raise NoFit(chain_behind(gaps, raised_by, raised, len(nodes)))


def raise_places(gaps, values, places, raised_by):
    """Raise the high of each gap that is below 0, and keep by which gap; tell a node that was raised, or None."""
    raised = None
    for k, gap in enumerate(gaps):
        least = minus(places[gap[0]], values[k])
        if is_less(places[gap[1]], least):
            places[gap[1]] = least
            raised_by[gap[1]] = k
            raised = gap[1]
    return raised


def chain_behind(gaps, raised_by, node, many):
    """The chain that is met when one goes back from a node, gap by gap, by which the places were raised."""
    for step in range(many):
        node = gaps[raised_by[node]][0]
    path = [raised_by[node]]
    while gaps[path[-1]][0] != node:
        path.append(raised_by[gaps[path[-1]][0]])
    chain = tuple(reversed(path))
    at = chain.index(min(chain))
    return chain[at:] + chain[:at]
