"""What several files of tests share: numbers, stocks and gaps by chance, and slow searches."""

import copy
import itertools
import unittest
from fractions import Fraction

from fitwhatever.assemblies import Assembly
from fitwhatever.parts import Part
from fitwhatever.stocks import Size, Stock
from fitwhatever.sums import sum_of
from fitwhatever.verdicts import verdict_of

WAYS = ["fixed", "big", "small"]
ZERO = (0, 1)
ONE = (1, 1)
HALF = (1, 2)


def number(fraction):
    fraction = Fraction(fraction)
    return (fraction.numerator, fraction.denominator)


def room_of(size, shift, value):
    """What a shift's room must be, by Python's own fractions."""
    for name, allowance, way in size.shifts:
        if name == shift:
            grows = {"fixed": 0, "big": value - Fraction(*size.least), "small": Fraction(*size.most) - value}
            return Fraction(*allowance) + grows[way]


def random_number(chance, least, most):
    return number(Fraction(chance.randrange(least * 6, most * 6 + 1), chance.choice([1, 2, 3, 6])))


def random_stock(chance, most_names=5):
    names = chance.sample("abcdefghijkl", chance.randrange(1, most_names + 1))
    sizes = []
    while names:
        name = names.pop()
        shifts = [(names.pop(), random_number(chance, 0, 2), chance.choice(WAYS))
                  for k in range(chance.randrange(min(2, len(names)) + 1))]
        ends = sorted(Fraction(*random_number(chance, -3, 3)) for k in range(2))
        if chance.randrange(5) == 0:
            ends[1] = ends[0]
        sizes.append(Size(name, number(ends[0]), number(ends[1]), shifts))
    return Stock(sizes)


def random_sum(chance, stock):
    pairs = [(name, random_number(chance, -2, 2)) for name in stock.names() if chance.randrange(4)]
    return sum_of(random_number(chance, -3, 3), pairs)


def random_making(chance, stock):
    """A making that keeps the stock."""
    making = {}
    for size in stock.sizes():
        least, most = Fraction(*size.least), Fraction(*size.most)
        value = least + (most - least) * Fraction(chance.randrange(5), 4)
        making[size.name] = number(value)
        for shift in size.shifts:
            making[shift[0]] = number(room_of(size, shift[0], value) * Fraction(chance.randrange(-4, 5), 4))
    return making


def is_chain(gaps, chain):
    """Whether a tuple of numbers is a chain, by the words of point 12."""
    lows = [gaps[k][0] for k in chain]
    highs = [gaps[k][1] for k in chain]
    return highs == lows[1:] + lows[:1] and len(set(lows)) == len(lows) and chain[0] == min(chain)


def chains_by_nodes(gaps):
    """All chains, by trying all rings of nodes and all gaps between each two of a ring."""
    nodes, told = sorted({gap[0] for gap in gaps}), []
    for length in range(1, len(nodes) + 1):
        for ring in itertools.permutations(nodes, length):
            if ring[0] == min(ring):
                choices = [[k for k, gap in enumerate(gaps) if gap[:2] == (low, high)]
                           for low, high in zip(ring, ring[1:] + ring[:1])]
                for chain in itertools.product(*choices):
                    at = chain.index(min(chain))
                    told.append(chain[at:] + chain[:at])
    return sorted(told)


def random_gaps(chance, stock, many, nodes, lift=0):
    """So many gaps between nodes, each raised by up to lift, so that more of them are kept."""
    gaps = []
    for k in range(many):
        number_of_gap, factors = random_sum(chance, stock)
        raised = number(Fraction(*number_of_gap) + chance.randrange(lift + 1))
        gaps.append((chance.choice(nodes), chance.choice(nodes), (raised, factors)))
    return gaps


def value_at(a, making):
    """The value of a sum by a making, as a fraction."""
    return Fraction(*a[0]) + sum(Fraction(*factor) * Fraction(*making[name]) for name, factor in a[1])


def chain_value(gaps, chain, making):
    """What a chain comes to by a making, as a fraction."""
    return sum(value_at(gaps[k][2], making) for k in chain)


def goes_together(gaps, making):
    """Whether gaps can all be kept by a making, by trying all chains."""
    return all(chain_value(gaps, chain, making) >= 0 for chain in chains_by_nodes(gaps))


def always_goes_together(gaps, stock):
    """Whether gaps can be kept by all makings: by all corners, where each chain has its least."""
    return all(goes_together(gaps, corner) for corner in stock.corners())


def most_by_paths(target, gaps, making):
    """The most of a target by one making that keeps the gaps: by the shortest way back, or None where there is none."""
    far = {target[1]: Fraction(0)}
    for turn in gaps:
        for low, high, a in gaps:
            if low in far and (high not in far or far[low] + value_at(a, making) < far[high]):
                far[high] = far[low] + value_at(a, making)
    return far[target[0]] + value_at(target[2], making) if target[0] in far else None


def place(value, *pairs):
    """A sum of a number and of pairs (name, factor)."""
    return sum_of(number(value), [(name, number(factor)) for name, factor in pairs])


def bar(name, least, most):
    """A part with a left face at its frame, and a right one its width further on."""
    part = Part(name, [Size("wide", number(least), number(most))])
    part.put_face("left", "x", None, place(0))
    part.put_face("right", "x", "left", place(0, ("wide", 1)))
    return part


def boxed(least, most):
    """A pin of this width in a box from 4 to 5; the gaps are box to pin, and pin to box."""
    assembly = Assembly([bar("box", 4, 5), bar("pin", least, most)])
    assembly.within(("pin", "left"), ("pin", "right"), ("box", "left"), ("box", "right"))
    return assembly


def put_rows(assembly, rows):
    for row in rows:
        getattr(assembly, row[0])(*row[1:])
    return assembly


def random_assembly(chance, axes="x"):
    """Two or three parts with up to two sizes each, a shift here and there, and up to five rows."""
    parts, faces = [], []
    for name in ["box", "pin", "lid"][:chance.randrange(2, 4)]:
        sizes = []
        for size in ["wide", "low"][:chance.randrange(3)]:
            least = Fraction(chance.randrange(-4, 9), 2)
            shifts = [(size + "s", HALF, chance.choice(WAYS))] if chance.randrange(3) == 0 else []
            sizes.append(Size(size, number(least), number(least + Fraction(chance.randrange(7), 2)), shifts))
        part = Part(name, sizes)
        for face in "abc":
            pairs = [(word, chance.choice([-1, 1])) for word in part.stock().names() if chance.randrange(2)]
            axis = chance.choice(axes)
            part.put_face(face, axis, None, place(Fraction(chance.randrange(-6, 7), 2), *pairs))
            faces.append((axis, name, face))
        parts.append(part)
    rows = []
    for k in range(chance.randrange(6)):
        axis = chance.choice(faces)[0]
        word, many = chance.choice([("ahead", 2), ("ahead", 2), ("lies", 2), ("within", 4)])
        rows.append((word,) + tuple(chance.choice([face for face in faces if face[0] == axis])[1:]
                                    for j in range(many)))
    return put_rows(Assembly(parts), rows)


def some_assembly(chance, axes="x"):
    """One by chance that goes together by some makings alone: so it parts more often."""
    while True:
        assembly = random_assembly(chance, axes)
        if verdict_of(assembly)[0] == "some":
            return assembly


def six_parts(room):
    """Six parts of two names each, with sixteen gaps on both axes, each with so much room, and more in the first."""
    parts = []
    for name, way in zip(["a", "b", "c", "d", "e", "f"], WAYS * 2):
        part = Part(name, [Size("wide", ONE, (2, 1), [("off", (1, 3), way)])])
        for axis, slope in (("x", Fraction(1, 2)), ("y", Fraction(-1, 3))):
            part.put_face("low" + axis, axis, None, place(0, ("off", 1)))
            height = Fraction(room) * (2 if name == "a" else 1)
            part.put_face("top" + axis, axis, "low" + axis, place(height, ("wide", slope), ("off", -1)))
        parts.append(part)
    rows = [("ahead", (one, "lowx"), (other, "topx")) for one, other in ["ab", "bc", "cd", "de", "ef", "fa", "ad", "be"]]
    rows.append(("within", ("b", "lowy"), ("b", "topy"), ("a", "lowy"), ("a", "topy")))
    rows.append(("lies", ("c", "lowy"), ("b", "topy")))
    rows += [("ahead", (one, "lowy"), (other, "topy")) for one, other in ["cd", "de", "ec", "fa"]]
    return put_rows(Assembly(parts), rows)


def narrowed(chance, assembly):
    """The assembly with each size's bounds narrower by chance."""
    for size in assembly.stock().sizes():
        ends = sorted(chance.randrange(5) for k in range(2))
        least, most = Fraction(*size.least), Fraction(*size.most)
        bounds = [number(least + (most - least) * end / 4) for end in ends]
        assembly = assembly.with_bounds(size.name, *bounds)
    return assembly


def moved(chance, assembly):
    """The assembly with each part moved by chance, along both axes, by sums of its own names."""
    for part in assembly.parts():
        for axis in "xy":
            assembly = assembly.with_moved(part.name, axis, random_sum(chance, part.stock()))
    return assembly


def shuffled(chance, assembly):
    """The assembly with parts and rows in another order."""
    parts, rows = assembly.parts(), assembly.rows()
    return put_rows(Assembly(chance.sample(parts, len(parts))), chance.sample(rows, len(rows)))


class AssemblyTest(unittest.TestCase):
    """A test of functions that are asked of an assembly."""

    def ask(self, function, assembly, *handed):
        """What a function tells; it changes nothing that is handed in."""
        before = copy.deepcopy((handed, assembly.rows(), assembly.gaps(), assembly.stock().corners()))
        told = function(assembly, *handed)
        self.assertEqual((handed, assembly.rows(), assembly.gaps(), assembly.stock().corners()), before)
        return told

    def refused(self, error, function, *handed):
        """The error, of just this class, with which a function refuses."""
        with self.assertRaises(error) as caught:
            function(*handed)
        self.assertIs(type(caught.exception), error)
        return caught.exception
