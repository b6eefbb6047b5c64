import copy
import itertools
import random
import unittest
from fractions import Fraction

from fitwhatever.errors import FitError, NoFit
from fitwhatever.places import gap_at, least_places
from fitwhatever.stocks import Stock
from fitwhatever.sums import sum_of
from helpers import (
    chain_value, chains_by_nodes, goes_together, is_chain, number, random_gaps, random_making, random_stock, value_at,
)

ZERO = (0, 1)
ONE = (1, 1)
A, B, C, D = ("x", "a"), ("x", "b"), ("x", "c"), ("y", "a")
NODES = [A, B, C, D]


def plain(low, high, value):
    """A gap without names."""
    return (low, high, sum_of(number(value), []))


def places_by_paths(gaps, making):
    """The least places, by trying all paths of unlike nodes; the gaps can all be kept by the making."""
    nodes = sorted({gap[0] for gap in gaps} | {gap[1] for gap in gaps})
    places = {node: Fraction(0) for node in nodes}
    for length in range(2, len(nodes) + 1):
        for path in itertools.permutations(nodes, length):
            steps = [[-value_at(gap[2], making) for gap in gaps if gap[:2] == ends] for ends in zip(path, path[1:])]
            if all(steps):
                places[path[-1]] = max(places[path[-1]], sum(max(step) for step in steps))
    return {node: number(value) for node, value in places.items()}


class GapAtTest(unittest.TestCase):
    def test_written_out(self):
        gap = (A, B, sum_of((1, 2), [("wide", (-1, 1)), ("low", (1, 3))]))
        making = {"wide": (2, 1), "low": (3, 1), "more": (9, 1)}
        self.assertEqual(gap_at(gap, making, {A: (5, 1), B: (7, 3), C: (8, 1)}), (-19, 6))
        self.assertEqual(gap_at(gap, making, {A: (7, 3), B: (5, 1)}), (13, 6))

    def test_from_a_node_to_itself(self):
        self.assertEqual(gap_at((A, A, sum_of((1, 2), [("wide", ONE)])), {"wide": (1, 6)}, {A: (5, 1)}), (2, 3))

    def test_without_names(self):
        self.assertEqual(gap_at(plain(A, B, 0), {}, {A: (1, 2), B: (1, 3)}), (-1, 6))

    def test_by_fractions(self):
        chance = random.Random(20)
        for k in range(60):
            stock = random_stock(chance)
            gap, making = random_gaps(chance, stock, 1, NODES)[0], random_making(chance, stock)
            places = {node: (chance.randrange(-9, 9), 1) for node in NODES}
            value = Fraction(*places[gap[1]]) - Fraction(*places[gap[0]]) + value_at(gap[2], making)
            self.assertEqual(gap_at(gap, making, places), number(value))

    def test_nothing_is_changed(self):
        making, places = {"wide": ONE}, {A: ONE, B: (2, 1)}
        gap_at((A, B, sum_of(ZERO, [("wide", ONE)])), making, places)
        self.assertEqual((making, places), ({"wide": ONE}, {A: ONE, B: (2, 1)}))


class LeastPlacesTest(unittest.TestCase):
    def test_without_gaps(self):
        for gaps in ([], ()):
            self.assertEqual(least_places(gaps, {}), {})
            self.assertEqual(least_places(gaps, {"more": ONE}), {})

    def test_without_chains(self):
        gaps = [plain(A, B, -2), plain(B, C, "-1/2"), plain(A, C, -2), plain(B, D, 4)]
        told = {A: ZERO, B: (2, 1), C: (5, 2), D: ZERO}
        for handed in (gaps, tuple(gaps), gaps[::-1]):
            self.assertEqual(least_places(handed, {}), told)

    def test_from_0_on(self):
        self.assertEqual(least_places([plain(A, B, 3)], {}), {A: ZERO, B: ZERO})
        self.assertEqual(least_places([plain(A, B, 0), plain(C, A, "-1/3")], {}), {A: (1, 3), B: (1, 3), C: ZERO})

    def test_with_chains(self):
        gaps = [plain(A, B, -2), plain(B, A, 2), plain(B, C, -3), plain(C, A, 5), plain(C, B, 4)]
        self.assertEqual(least_places(gaps, {}), {A: ZERO, B: (2, 1), C: (5, 1)})

    def test_by_the_making(self):
        gaps = [(A, B, sum_of(ONE, [("wide", (-1, 1))])), (B, A, sum_of(ZERO, [("wide", ONE)]))]
        self.assertEqual(least_places(gaps, {"wide": (4, 1), "more": ONE}), {A: ZERO, B: (3, 1)})
        self.assertEqual(least_places(gaps, {"wide": (1, 2)}), {A: ZERO, B: ZERO})
        self.assertEqual(least_places(gaps, {"wide": (-1, 2)}), {A: (1, 2), B: ZERO})

    def test_a_gap_from_a_node_to_itself(self):
        for value in (0, 3, "1/9"):
            self.assertEqual(least_places([plain(A, A, value)], {}), {A: ZERO})
            self.assertEqual(least_places([plain(B, A, -1), plain(A, A, value)], {}), {A: ONE, B: ZERO})

    def test_a_long_way_against_the_order(self):
        nodes = [("x", letter) for letter in "abcdef"] + [("y", letter) for letter in "abcdef"]
        gaps = [plain(low, high, -1) for low, high in zip(nodes[1:], nodes)]
        told = {node: (11 - k, 1) for k, node in enumerate(nodes)}
        for handed in (gaps, gaps[::-1]):
            self.assertEqual(least_places(handed, {}), told)
            self.assertEqual(least_places(handed + [plain(nodes[0], nodes[-1], 11)], {}), told)

    def test_as_by_trying_all_paths(self):
        chance = random.Random(21)
        many = 0
        for k in range(300):
            stock = random_stock(chance)
            gaps = random_gaps(chance, stock, chance.randrange(9), NODES[:chance.randrange(1, 5)], 12)
            making = random_making(chance, stock)
            if goes_together(gaps, making):
                many += 1
                told = least_places(gaps, making)
                self.assertEqual(told, places_by_paths(gaps, making))
                self.assertTrue(all(gap_at(gap, making, told)[0] >= 0 for gap in gaps))
        self.assertGreater(many, 80)

    def test_numbers_as_long_as_they_come(self):
        long = 10 ** 60 + 7
        told = least_places([(A, B, sum_of((-1, long), [("wide", (-1, 1))]))], {"wide": (long, 3)})
        self.assertEqual(told[B], number(Fraction(1, long) + Fraction(long, 3)))

    def test_told_anew_and_nothing_changed(self):
        gaps, making = [plain(A, B, -2), (B, C, sum_of(ZERO, [("wide", (-1, 1))]))], {"wide": ONE}
        before = copy.deepcopy((gaps, making))
        told = least_places(gaps, making)
        kept = dict(told)
        told.clear()
        self.assertEqual(least_places(gaps, making), kept)
        self.assertEqual((gaps, making), before)
        self.assertIs(type(least_places([], {})), dict)


class NoFitTest(unittest.TestCase):
    def refused(self, gaps, making):
        before = copy.deepcopy((gaps, making))
        with self.assertRaises(NoFit) as caught:
            least_places(gaps, making)
        chain = caught.exception.chain
        self.assertIs(type(chain), tuple)
        self.assertTrue(is_chain(gaps, chain), chain)
        self.assertLess(chain_value(gaps, chain, making), 0)
        self.assertEqual((gaps, making), before)
        return chain

    def test_a_gap_from_a_node_to_itself(self):
        self.assertEqual(self.refused([plain(A, A, "-1/9")], {}), (0,))
        self.assertEqual(self.refused([plain(A, B, 0), plain(B, A, 0), plain(B, B, -1)], {}), (2,))

    def test_two_gaps(self):
        self.assertEqual(self.refused([plain(A, B, -3), plain(B, A, 2)], {}), (0, 1))
        self.assertEqual(self.refused([plain(B, C, 5), plain(B, A, 2), plain(A, B, -3), plain(C, B, 5)], {}), (1, 2))

    def test_the_least_number_stands_first(self):
        gaps = [plain(C, A, 1), plain(B, C, 1), plain(A, B, -3)]
        for order in itertools.permutations(gaps):
            self.refused(list(order), {})
        self.assertEqual(self.refused(gaps, {}), (0, 2, 1))

    def test_the_chain_lies_behind_other_nodes(self):
        gaps = [plain(A, B, -1), plain(B, C, -1), plain(C, B, "1/2"), plain(C, D, -1), plain(D, D, 0)]
        for order in itertools.permutations(range(5)):
            shuffled = [gaps[k] for k in order]
            self.assertEqual(sorted(order[k] for k in self.refused(shuffled, {})), [1, 2])

    def test_by_the_making(self):
        gaps = [(A, B, sum_of(ONE, [("wide", (-1, 1))])), (B, A, sum_of(ONE, [("low", ONE)]))]
        self.assertEqual(least_places(gaps, {"wide": (3, 1), "low": ONE}), {A: ZERO, B: (2, 1)})
        self.assertEqual(self.refused(gaps, {"wide": (3, 1), "low": (1, 2)}), (0, 1))

    def test_a_chain_through_twelve_nodes(self):
        nodes = [("x", letter) for letter in "abcdef"] + [("y", letter) for letter in "abcdef"]
        gaps = [plain(low, high, -1) for low, high in zip(nodes, nodes[1:])]
        for at in range(12):
            row = gaps[at:] + [plain(nodes[-1], nodes[0], "32/3")] + gaps[:at]
            self.assertEqual(len(self.refused(row, {})), 12)
            self.assertEqual(len(self.refused(row[::-1], {})), 12)

    def test_just_where_a_chain_is_below_0(self):
        chance = random.Random(22)
        found = []
        for k in range(400):
            stock = random_stock(chance) if k % 9 else Stock([])
            gaps = random_gaps(chance, stock, chance.randrange(10), NODES[:chance.randrange(1, 5)], 4)
            making = random_making(chance, stock)
            if goes_together(gaps, making):
                least_places(gaps, making)
            else:
                chain = self.refused(gaps, making)
                self.assertIn(chain, chains_by_nodes(gaps))
                found.append(len(chain))
        self.assertLessEqual({1, 2, 3}, set(found))

    def test_it_is_a_refusal(self):
        with self.assertRaises(FitError):
            least_places([plain(A, A, -1)], {})


if __name__ == "__main__":
    unittest.main()
