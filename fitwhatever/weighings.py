"""Weighings: the most of a target over all makings and places that keep gaps.

It comes of a program, whose unknowns are from 0 on: the places, as all of them may be moved together, and for each
name of the stock its rise: of a size above its least, of a shift above its room below 0.
"""

from fitwhatever.chains import nodes_of
from fitwhatever.errors import NoSum
from fitwhatever.numbers import MINUS_ONE, ONE, ZERO, common_bottom, lowest_terms, minus, plus, times
from fitwhatever.places import gap_at
from fitwhatever.programs import negative_row, solved
from fitwhatever.sums import sum_at, sum_minus, sum_of, sum_plus, sum_times

TWO = (2, 1)

# By each way: by how much the room of a shift grows with its size.
GROWTH = {"fixed": (0, 1), "big": (1, 1), "small": (-1, 1)}


def most_of(target, gaps, stock):
    """The most of a target: most, open or none, with its paper."""
    names = names_by_rises(stock)
    nodes = nodes_of(list(gaps) + [target])
    unknowns = list(names) + nodes
    goal = whole_row(link_by_rises(target, names), unknowns)
    kept = [whole_row(link_by_rises(gap, names), unknowns) for gap in gaps]
    rows = kept + [whole_row(a, unknowns) for a in rests_of(stock)]
    # None of these is below 0: so their factors times -1 don't come above their numbers.
    told = solved(goal[1], [negative_row(row[1]) for row in rows], [row[2] for row in rows])
    if told[0] == "open":
        return ("open",)
    if told[0] == "none":
        return ("none", weights_of(told[1], kept, 1))
    rises = dict(zip(unknowns, told[2]))
    making = made_by(names, rises)
    places = dict([(node, rises[node]) for node in nodes])
    # In each row, and in the goal, the places' factors add up to 0: so prices, which leave none of them below 0, leave
    # all of them 0, and are weights.
    return ("most", gap_at(target, making, places), making, places, weights_of(told[3], kept, goal[0]))


def names_by_rises(stock):
    """Each name's value as a sum of rises, as a dict in the stock's order."""
    names = {}
    for size in stock.sizes():
        names[size.name] = sum_of(size.least, [(size.name, ONE)])
        for shift in size.shifts:
            names[shift[0]] = sum_minus(sum_of(ZERO, [(shift[0], ONE)]), room_by_rises(size, shift))
    return names


def room_by_rises(size, shift):
    """The room of a shift as a sum of rises."""
    return sum_of(size.room(shift[0], size.least), [(size.name, GROWTH[shift[2]])])


def rests_of(stock):
    """What each name could still rise, as sums of rises: a making keeps the stock where none of these is below 0."""
    rests = []
    for size in stock.sizes():
        rests.append(sum_of(minus(size.most, size.least), [(size.name, MINUS_ONE)]))
        for shift in size.shifts:
            both_rooms = sum_times(room_by_rises(size, shift), TWO)
            rests.append(sum_plus(both_rooms, sum_of(ZERO, [(shift[0], MINUS_ONE)])))
    return rests


def link_by_rises(link, names):
    """A link as (number, pairs), pairs of a rise or a node and its factor."""
    total = sum_of(link[2][0], ())
    for name, factor in link[2][1]:
        if name not in names:
            raise NoSum(f"the stock lacks the name {name}")
        total = sum_plus(total, sum_times(names[name], factor))
    # Of a link from a node to itself the two add up to 0.
    return (total[0], total[1] + ((link[1], ONE), (link[0], MINUS_ONE)))


def whole_row(link, unknowns):
    """A link times the least scale by which all its numbers are whole: (scale, factors by unknowns, number)."""
    factors = {}
    for unknown, factor in link[1]:
        factors[unknown] = plus(factors.get(unknown, ZERO), factor)
    scale = common_bottom([link[0]] + list(factors.values()))
    row = [times(factors.get(unknown, ZERO), (scale, 1)) for unknown in unknowns]
    return (scale, [number[0] for number in row], times(link[0], (scale, 1))[0])


def weights_of(prices, kept, scale):
    """The weights of gaps from the prices of their rows, over the goal's scale."""
    return tuple([lowest_terms(price[0] * row[0], price[1] * scale) for price, row in zip(prices, kept)])


def made_by(names, rises):
    """The making of these rises."""
    making = {}
    for name in names:
        making[name] = sum_at(names[name], rises)
    return making
