"""Gauges: pieces that let in just those makings of a part that go together with every making of the others."""

from fitwhatever.assemblies import stock_of
from fitwhatever.errors import NoMaking, NoPart, TooMany
from fitwhatever.margins import (
    NODE,
    chain_sums,
    corner_margin,
    corner_steps,
    find_parting,
    margin_at,
    sum_split,
)
from fitwhatever.numbers import ZERO, is_less, lowest_terms
from fitwhatever.sums import sum_at

MOST_CORNERS = 1024


def is_good(assembly, part, made):
    """Whether all goes together by made, whatever the others are made as."""
    stocks = stocks_by(assembly, part)
    refuse_making(stocks[0], made)
    return are_kept(worst_sums(rests_by_factors(assembly, stocks[0]), stocks[1]), made)


def goes_in(assembly, part, made, piece):
    """Whether all goes together by made and the piece."""
    stocks = stocks_by(assembly, part)
    refuse_making(stocks[0], made)
    refuse_making(stocks[1], piece)
    return are_kept(sums_by(rests_by_factors(assembly, stocks[0]), piece), made)


def parting_of(assembly, part, piece):
    """A made that goes in the piece, but isn't good; None where there is none."""
    stocks = stocks_by(assembly, part)
    refuse_making(stocks[1], piece)
    rests = rests_by_factors(assembly, stocks[0])
    return find_made(worst_sums(rests, stocks[1]), sums_by(rests, piece), stocks[0])


def gauge_of(assembly, part):
    """The first corner of the others' stock that is a gauge; None where none is."""
    stocks = stocks_by(assembly, part)
    pieces = stocks[1].corners()
    if len(pieces) > MOST_CORNERS:
        raise TooMany("the others have at most 1024 corners")
    rests = rests_by_factors(assembly, stocks[0])
    worsts = worst_sums(rests, stocks[1])
    margins = margins_by_factors(rests, stocks[1])
    bad = []
    for piece, steps in zip(pieces, corner_steps(stocks[1])):
        sums = sums_at_corner(margins, steps)
        # What isn't good and went in another piece mostly goes in this one, too.
        if not any([are_kept(sums, made) for made in bad]):
            made = find_made(worsts, sums, stocks[0])
            if made is None:
                return piece
            bad.append(made)
    return None


def stocks_by(assembly, part):
    """The stock of a part and that of all others, names as in the assembly."""
    parts = assembly.parts()
    if part not in [own.name for own in parts]:
        raise NoPart(f"there is no part {part!r}")
    return (stock_of([own for own in parts if own.name == part]), stock_of([own for own in parts if own.name != part]))


def refuse_making(stock, making):
    """Refuse a making that doesn't keep its stock."""
    if not stock.keeps(making):
        raise NoMaking("a made or a piece does not keep its stock")


def rests_by_factors(assembly, stock):
    """The chains' sums, as a dict: by the factors of the stock's names, the sums without these names."""
    names = stock.names()
    rests = {}
    for a in chain_sums(assembly.gaps()):
        split = sum_split(a, names)
        rests.setdefault(split[0], []).append(split[1])
    return rests


def worst_sums(rests, others):
    """The chains' sums with the least that the others may give."""
    sums = []
    for factors, own in rests.items():
        sums.append((least_number([others.lowest(rest) for rest in own]), factors))
    return sums


def sums_by(rests, piece):
    """The chains' sums with what a piece gives, of those with the same factors the least."""
    sums = []
    for factors, own in rests.items():
        sums.append((least_number([sum_at(rest, piece) for rest in own]), factors))
    return sums


def margins_by_factors(rests, others):
    """The margins of the rests, by which they are quickly told at each corner of the others' stock."""
    margins = {}
    for factors, own in rests.items():
        margins[factors] = [corner_margin(rest, others) for rest in own]
    return margins


def sums_at_corner(margins, steps):
    """The same as sums_by tells of a corner, by what it is of each size."""
    return [(least_at(own, steps), factors) for factors, own in margins.items()]


def least_at(margins, steps):
    """The least of some margins, as a number."""
    least = least_number([(margin_at(margin, steps), margin[2]) for margin in margins])
    return lowest_terms(least[0], least[1])


def least_number(numbers):
    """The least of some numbers, in whatever terms."""
    least = numbers[0]
    for number in numbers:
        if is_less(number, least):
            least = number
    return least


def are_kept(sums, made):
    """Whether no sum is below 0."""
    return not any([is_less(sum_at(a, made), ZERO) for a in sums])


def find_made(worsts, sums, stock):
    """A made by which no sum is below 0, but one of the worst; None where there is none."""
    # The sums of chains tell all of a piece, so no places are looked for.
    gaps = [(NODE, NODE, a) for a in sums if is_less(stock.lowest(a), ZERO)]
    found = find_parting([a for a in worsts if a not in sums], gaps, stock)
    return None if found is None else found[0]
