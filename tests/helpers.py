"""What several files of tests share: numbers, stocks and gaps by chance, and slow searches."""

import itertools
from fractions import Fraction

from fitwhatever.stocks import Size, Stock
from fitwhatever.sums import sum_of

WAYS = ["fixed", "big", "small"]


def number(fraction):
    fraction = Fraction(fraction)
    return (fraction.numerator, fraction.denominator)


def room_of(size, shift, value):
    """What a shift's room must be, by Python's own fractions."""
    for name, allowance, way in size.shifts:
        if name == shift:
            grows = {"fixed": 0, "big": value - Fraction(*size.least), "small": Fraction(*size.most) - value}
            return Fraction(*allowance) + grows[way]


def random_number(chance, least, most):
    return number(Fraction(chance.randrange(least * 6, most * 6 + 1), chance.choice([1, 2, 3, 6])))


def random_stock(chance, most_names=5):
    names = chance.sample("abcdefghijkl", chance.randrange(1, most_names + 1))
    sizes = []
    while names:
        name = names.pop()
        shifts = [(names.pop(), random_number(chance, 0, 2), chance.choice(WAYS))
                  for k in range(chance.randrange(min(2, len(names)) + 1))]
        ends = sorted(Fraction(*random_number(chance, -3, 3)) for k in range(2))
        if chance.randrange(5) == 0:
            ends[1] = ends[0]
        sizes.append(Size(name, number(ends[0]), number(ends[1]), shifts))
    return Stock(sizes)


def random_sum(chance, stock):
    pairs = [(name, random_number(chance, -2, 2)) for name in stock.names() if chance.randrange(4)]
    return sum_of(random_number(chance, -3, 3), pairs)


def random_making(chance, stock):
    """A making that keeps the stock."""
    making = {}
    for size in stock.sizes():
        least, most = Fraction(*size.least), Fraction(*size.most)
        value = least + (most - least) * Fraction(chance.randrange(5), 4)
        making[size.name] = number(value)
        for shift in size.shifts:
            making[shift[0]] = number(room_of(size, shift[0], value) * Fraction(chance.randrange(-4, 5), 4))
    return making


def is_chain(gaps, chain):
    """Whether a tuple of numbers is a chain, by the words of point 12."""
    lows = [gaps[k][0] for k in chain]
    highs = [gaps[k][1] for k in chain]
    return highs == lows[1:] + lows[:1] and len(set(lows)) == len(lows) and chain[0] == min(chain)


def chains_by_nodes(gaps):
    """All chains, by trying all rings of nodes and all gaps between each two of a ring."""
    nodes, told = sorted({gap[0] for gap in gaps}), []
    for length in range(1, len(nodes) + 1):
        for ring in itertools.permutations(nodes, length):
            if ring[0] == min(ring):
                choices = [[k for k, gap in enumerate(gaps) if gap[:2] == (low, high)]
                           for low, high in zip(ring, ring[1:] + ring[:1])]
                for chain in itertools.product(*choices):
                    at = chain.index(min(chain))
                    told.append(chain[at:] + chain[:at])
    return sorted(told)


def random_gaps(chance, stock, many, nodes, lift=0):
    """So many gaps between nodes, each raised by up to lift, so that more of them are kept."""
    gaps = []
    for k in range(many):
        number_of_gap, factors = random_sum(chance, stock)
        raised = number(Fraction(*number_of_gap) + chance.randrange(lift + 1))
        gaps.append((chance.choice(nodes), chance.choice(nodes), (raised, factors)))
    return gaps


def value_at(a, making):
    """The value of a sum by a making, as a fraction."""
    return Fraction(*a[0]) + sum(Fraction(*factor) * Fraction(*making[name]) for name, factor in a[1])


def chain_value(gaps, chain, making):
    """What a chain comes to by a making, as a fraction."""
    return sum(value_at(gaps[k][2], making) for k in chain)


def goes_together(gaps, making):
    """Whether gaps can all be kept by a making, by trying all chains."""
    return all(chain_value(gaps, chain, making) >= 0 for chain in chains_by_nodes(gaps))


def always_goes_together(gaps, stock):
    """Whether gaps can be kept by all makings: by all corners, where each chain has its least."""
    return all(goes_together(gaps, corner) for corner in stock.corners())
