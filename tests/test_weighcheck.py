import copy
import random
import unittest
from fractions import Fraction

from fitwhatever.stocks import Size, Stock
from fitwhatever.sums import sum_of
from fitwhatever.weighcheck import kept_by, never_holds, weighs
from helpers import goes_together, number, random_gaps, random_making, random_stock, value_at

ZERO = (0, 1)
ONE = (1, 1)
A, B, C, D = ("x", "a"), ("x", "b"), ("x", "c"), ("y", "a")
NODES = [A, B, C, D]
NONE = Stock([])
LONG = 10 ** 50


def link(low, high, value, *pairs):
    return (low, high, sum_of(number(value), [(name, number(factor)) for name, factor in pairs]))


def weights_of(*values):
    return tuple(number(value) for value in values)


def wide_stock():
    """A size from 1 to 2 with a shift that grows with it, and one from -1 to 1."""
    return Stock([Size("wide", ONE, (2, 1), [("off", (1, 2), "big")]), Size("low", (-1, 1), ONE)])


def ring():
    """Gaps there and back between two nodes, and one from a node to itself."""
    return [link(A, B, 1, ("wide", -1)), link(B, A, 0, ("low", 1)), link(B, B, 1, ("off", 1))]


def weighed(links, weights, corner):
    """All links times their weights by a making: the places' factors that aren't 0, and the value."""
    factors, value = {}, Fraction(0)
    for (low, high, a), weight in zip(links, weights):
        factors[high] = factors.get(high, 0) + Fraction(*weight)
        factors[low] = factors.get(low, 0) - Fraction(*weight)
        value += value_at(a, corner) * Fraction(*weight)
    return [factor for factor in factors.values() if factor], value


class WeighsTest(unittest.TestCase):
    def held(self, told, target, gaps, stock, weights, value):
        before = copy.deepcopy((target, gaps, weights, value))
        self.assertIs(weighs(target, gaps, stock, weights, number(value)), told)
        self.assertIs(weighs(target, tuple(gaps), stock, weights, number(value)), told)
        self.assertEqual((target, gaps, weights, value), before)

    def test_one_node_without_gaps(self):
        for gaps, weights in ([], ()), (ring(), weights_of(0, 0, 0)):
            self.held(True, link(A, A, 3), gaps, wide_stock(), weights, 3)
            self.held(True, link(D, D, 3, ("wide", 2)), gaps, wide_stock(), weights, 7)
            self.held(False, link(D, D, 3, ("wide", 2)), gaps, wide_stock(), weights, 5)
        self.held(True, link(A, A, "1/3"), [], NONE, (), "1/3")

    def test_two_nodes(self):
        # The target b less a is at most what the gap from b to a has left.
        self.held(True, link(A, B, 0), ring(), wide_stock(), weights_of(0, 1, 0), 1)
        self.held(True, link(A, B, 0, ("low", -1)), ring(), wide_stock(), weights_of(0, 1, 0), 0)
        self.held(True, link(B, A, 2), ring(), wide_stock(), weights_of(1, 0, 0), 2)
        self.held(True, link(B, A, 2, ("off", 1)), ring(), wide_stock(), weights_of(1, 0, 0), "5/2")

    def test_more_than_is_needed(self):
        # Other weights weigh another value, perhaps a worse one.
        self.held(True, link(A, B, 0), ring(), wide_stock(), weights_of(1, 2, 0), 2)
        self.held(True, link(A, B, 0), ring(), wide_stock(), weights_of(0, 1, 2), 6)
        self.held(True, link(A, B, 0), ring(), wide_stock(), weights_of("1/2", "3/2", "1/3"), 2)
        self.held(True, link(A, A, 0), ring(), wide_stock(), weights_of(1, 1, 0), 1)

    def test_by_way_of_other_nodes(self):
        gaps = [link(B, C, 1), link(C, A, 2, ("low", 1)), link(B, A, 9)]
        self.held(True, link(A, B, "1/2"), gaps, wide_stock(), weights_of(1, 1, 0), "9/2")
        self.held(True, link(A, B, "1/2"), gaps, wide_stock(), weights_of("1/2", "1/2", "1/2"), 7)

    def test_another_value(self):
        for value in (0, 2, "99/100", "101/100", Fraction(LONG + 1, LONG), Fraction(LONG - 1, LONG), -1):
            self.held(False, link(A, B, 0), ring(), wide_stock(), weights_of(0, 1, 0), value)

    def test_a_number_below_0(self):
        self.held(True, link(A, B, 0), ring(), wide_stock(), weights_of(0, 1, 0), 1)
        self.held(False, link(A, B, 0), ring(), wide_stock(), weights_of(0, 1, "-1/9"), 1)
        # All places' factors are 0 here, and the most is as told.
        self.held(False, link(A, A, 0), ring(), wide_stock(), weights_of(-1, -1, 0), 2)
        self.held(False, link(A, A, 0), ring(), wide_stock(), weights_of(0, 0, -1), "1/2")
        self.held(False, link(B, A, 0), ring(), wide_stock(), weights_of(0, -1, 0), 1)
        self.held(False, link(A, A, 0), [link(A, A, 0)], NONE, ((-1, LONG),), 0)

    def test_another_count_of_weights(self):
        for weights in ((), weights_of(0), weights_of(0, 1), weights_of(0, 1, 0, 0)):
            self.held(False, link(A, B, 0), ring(), wide_stock(), weights, 1)
        self.held(False, link(A, A, 3), [], NONE, weights_of(0), 3)
        self.held(False, link(A, A, 3), ring(), wide_stock(), (), 3)

    def test_places_with_factors(self):
        for weights in ((0, 0, 0), (1, 0, 0), (0, 2, 0), (1, 1, 0), (0, "1/2", 0), (0, Fraction(LONG - 1, LONG), 0)):
            for value in (0, 1, 2):
                self.held(False, link(A, B, 0), ring(), wide_stock(), weights_of(*weights), value)
        self.held(False, link(A, C, 0), ring(), wide_stock(), weights_of(0, 1, 0), 1)
        self.held(False, link(A, A, 0), ring(), wide_stock(), weights_of(1, 0, 0), 0)
        self.held(False, link(A, B, 0), [], NONE, (), 0)

    def test_a_name_that_is_not_there(self):
        self.held(False, link(A, A, 0, ("none", 1)), [], wide_stock(), (), 0)
        self.held(False, link(A, A, 0), ring(), NONE, weights_of(1, 1, 0), 0)

    def test_numbers_as_long_as_they_come(self):
        gaps = [link(B, A, 1), link(B, A, 3)]
        weights = ((1, LONG), (LONG - 1, LONG))
        self.held(True, link(A, B, 0), gaps, NONE, weights, Fraction(3 * LONG - 2, LONG))

    def test_by_all_corners(self):
        chance = random.Random(50)
        trues = 0
        for k in range(400):
            stock = random_stock(chance, 4) if k % 9 else NONE
            gaps = random_gaps(chance, stock, chance.randrange(4), NODES[:2])
            target = random_gaps(chance, stock, 1, NODES[:2])[0]
            weights = weights_of(*[chance.choice([0, 1, 1, "1/2"]) for gap in gaps])
            told = [weighed([target] + gaps, (ONE,) + weights, corner) for corner in stock.corners()]
            most = max(value for factors, value in told)
            self.held(not told[0][0], target, gaps, stock, weights, most)
            self.held(False, target, gaps, stock, weights, most + Fraction(1, 7))
            self.held(False, target, gaps, stock, weights, most - Fraction(1, 7))
            trues += not told[0][0]
        self.assertGreater(trues, 100)


class NeverHoldsTest(unittest.TestCase):
    def held(self, told, gaps, stock, weights):
        before = copy.deepcopy((gaps, weights))
        self.assertIs(never_holds(gaps, stock, weights), told)
        self.assertIs(never_holds(tuple(gaps), stock, weights), told)
        self.assertEqual((gaps, weights), before)

    def never(self):
        """Gaps that no making keeps: the first two come to at most -1/2."""
        return [link(A, B, "1/2", ("wide", -1)), link(B, A, -1, ("low", 1)), link(A, C, 5), link(C, C, 0, ("off", 1))]

    def test_written_out(self):
        self.held(True, self.never(), wide_stock(), weights_of(1, 1, 0, 0))
        self.held(True, self.never(), wide_stock(), weights_of("1/3", "1/3", 0, 0))
        self.held(True, self.never(), wide_stock(), weights_of(LONG, LONG, 0, 0))
        self.held(True, [link(A, A, "-1/9")], NONE, weights_of(1))
        self.held(True, [link(A, B, -1), link(B, C, 0), link(C, A, "1/2")], NONE, weights_of(2, 2, 2))

    def test_more_than_is_needed(self):
        self.held(True, self.never(), wide_stock(), weights_of(1, 1, 0, "9/10"))
        self.held(False, self.never(), wide_stock(), weights_of(1, 1, 0, 1))

    def test_two_chains_that_are_kept_each_by_itself(self):
        gaps = [link(A, A, "-1/2", ("low", 1)), link(B, B, "-1/2", ("low", -1))]
        self.held(True, gaps, wide_stock(), weights_of(1, 1))
        self.held(False, gaps, wide_stock(), weights_of(1, 0))
        self.held(False, gaps, wide_stock(), weights_of(0, 1))

    def test_a_most_that_is_not_below_0(self):
        gaps = [link(A, B, 1, ("wide", -1)), link(B, A, 0)]
        self.held(False, gaps, wide_stock(), weights_of(1, 1))
        self.held(False, gaps, wide_stock(), weights_of(0, 0))
        self.held(True, gaps[:1] + [link(B, A, Fraction(-1, LONG))], wide_stock(), weights_of(1, 1))
        self.held(False, gaps[:1] + [link(B, A, Fraction(1, LONG))], wide_stock(), weights_of(1, 1))

    def test_without_gaps(self):
        self.held(False, [], NONE, ())
        self.held(False, [], wide_stock(), ())
        self.held(False, [], NONE, weights_of(1))

    def test_places_with_factors(self):
        for weights in ((1, 0, 0, 0), (0, 1, 0, 0), (1, 2, 0, 0), (2, 1, 0, 0), (1, 1, "1/99", 0),
                        (1, Fraction(LONG - 1, LONG), 0, 0)):
            self.held(False, self.never(), wide_stock(), weights_of(*weights))

    def test_a_number_below_0(self):
        self.held(False, [link(A, A, 1)], NONE, weights_of(-1))
        self.held(False, self.never(), wide_stock(), weights_of(-1, -1, 0, 0))
        self.held(False, self.never(), wide_stock(), weights_of(1, 1, 0, Fraction(-1, LONG)))

    def test_another_count_of_weights(self):
        for weights in ((), (1,), (1, 1), (1, 1, 0), (1, 1, 0, 0, 0)):
            self.held(False, self.never(), wide_stock(), weights_of(*weights))

    def test_a_name_that_is_not_there(self):
        self.held(False, self.never(), NONE, weights_of(1, 1, 0, 0))

    def test_what_is_let_pass_is_so(self):
        chance = random.Random(51)
        trues = 0
        for k in range(500):
            stock = random_stock(chance, 4) if k % 9 else NONE
            gaps = random_gaps(chance, stock, chance.randrange(1, 4), NODES[:2])
            weights = weights_of(*[chance.choice([0, 1, 1, "1/2"]) for gap in gaps])
            told = [weighed(gaps, weights, corner) for corner in stock.corners()]
            wanted = not told[0][0] and max(value for factors, value in told) < 0
            self.held(wanted, gaps, stock, weights)
            if wanted:
                trues += 1
                self.assertFalse(any(goes_together(gaps, corner) for corner in stock.corners()))
                self.assertFalse(goes_together(gaps, random_making(chance, stock)))
        self.assertGreater(trues, 30)


class KeptByTest(unittest.TestCase):
    def making(self, **changes):
        making = {"wide": (3, 2), "off": ONE, "low": (-1, 4)}
        making.update(changes)
        return making

    def held(self, told, making, places, gaps=None, stock=None):
        gaps, stock = ring() if gaps is None else gaps, wide_stock() if stock is None else stock
        before = copy.deepcopy((gaps, making, places))
        self.assertIs(kept_by(gaps, stock, making, places), told)
        self.assertIs(kept_by(tuple(gaps), stock, making, places), told)
        self.assertEqual((gaps, making, places), before)

    def test_written_out(self):
        # By this making b lies from 1/2 above a on, and at most 1/4 below it.
        self.held(False, self.making(), {A: ZERO, B: (1, 2)})
        good = self.making(low=(1, 2))
        self.held(True, good, {A: ZERO, B: (1, 2)})
        self.held(True, good, {A: (-7, 1), B: (-13, 2)})
        self.held(True, self.making(low=ONE), {A: ZERO, B: (1, 2)})
        self.held(True, self.making(low=ONE), {A: ZERO, B: ONE})
        self.held(True, self.making(low=ONE), {A: ZERO, B: (3, 4)})

    def test_a_gap_below_0(self):
        good = self.making(low=ONE)
        for place in ((49, 100), (101, 100), (-1, 1), (LONG + 1, LONG), (LONG // 2 - 1, LONG)):
            self.held(False, good, {A: ZERO, B: place})
        self.held(False, good, {A: ONE, B: ZERO})
        self.held(True, self.making(low=ONE, wide=(3, 2), off=(-1, 1)), {A: ZERO, B: ONE})
        self.held(False, self.making(low=ONE, wide=(2, 1), off=(-11, 10)), {A: ZERO, B: ONE})

    def test_places_of_more_nodes(self):
        places = {A: ZERO, B: ONE, C: (9, 1), D: ZERO, ("z", "none"): ONE, "more": ZERO}
        self.held(True, self.making(low=ONE), places)

    def test_a_node_without_a_place(self):
        for places in ({}, {A: ZERO}, {B: ZERO}, {A: ZERO, C: ONE}):
            self.held(False, self.making(low=ONE), places)
        self.held(False, self.making(), {A: ZERO}, [link(B, B, 1)])
        self.held(False, self.making(), {}, [link(B, B, 1)])
        self.held(True, self.making(), {B: ZERO}, [link(B, B, 1)])

    def test_a_making_that_does_not_keep_the_stock(self):
        places = {A: ZERO, B: ONE}
        for changes in ({"wide": (201, 100)}, {"wide": (99, 100), "off": ZERO}, {"off": (101, 100)},
                        {"wide": ONE, "off": (3, 4)}, {"low": (101, 100)}, {"more": ZERO}):
            self.held(True, self.making(low=ONE), places)
            self.held(False, self.making(**{"low": ONE, **changes}), places)
            self.held(False, self.making(**{"low": ONE, **changes}), places, [])
        for name in ("wide", "off", "low"):
            making = self.making(low=ONE)
            making.pop(name)
            self.held(False, making, places)
            self.held(False, making, places, [])
        self.held(False, {}, places)

    def test_a_name_that_is_not_there(self):
        self.held(False, self.making(), {A: ZERO}, [link(A, A, 1, ("none", 1))])
        self.held(False, {}, {A: ZERO, B: ONE}, stock=NONE)

    def test_without_gaps_or_names(self):
        self.held(True, self.making(), {}, [])
        self.held(True, self.making(), {A: ZERO}, [])
        self.held(True, {}, {}, [], NONE)
        self.held(True, {}, {A: ZERO, B: ZERO}, [link(A, B, 0)], NONE)
        self.held(False, {}, {A: ZERO, B: ZERO}, [link(A, B, "-1/9")], NONE)

    def test_by_fractions(self):
        chance = random.Random(52)
        told = []
        for k in range(300):
            stock = random_stock(chance, 4)
            gaps, making = random_gaps(chance, stock, chance.randrange(4), NODES, 4), random_making(chance, stock)
            places = {node: (chance.randrange(-3, 4), 1) for node in NODES}
            values = [value_at(a, making) + places[high][0] - places[low][0] for low, high, a in gaps]
            told.append(all(value >= 0 for value in values))
            self.held(told[-1], making, places, gaps, stock)
        self.assertGreater(min(told.count(True), told.count(False)), 80)


if __name__ == "__main__":
    unittest.main()
