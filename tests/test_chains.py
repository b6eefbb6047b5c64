import copy
import itertools
import random
import unittest
from fractions import Fraction

from fitwhatever.assemblies import Assembly
from fitwhatever.chains import chain_sum, chains_of, is_chain, nodes_of, tight_chain
from fitwhatever.errors import NoSum
from fitwhatever.parts import Part
from fitwhatever.stocks import Size, Stock
from fitwhatever.sums import sum_at, sum_of
from helpers import chains_by_nodes
from helpers import is_chain as is_chain_by_words

ZERO = (0, 1)
ONE = (1, 1)
EMPTY = (ZERO, ())
NODES = [("x", "b"), ("y", "a"), ("x", "a"), ("x", "ab"), ("y", "c"), ("x", "c")]


def gaps_of(ends):
    """Gaps without names, from pairs of letters."""
    return [(("x", low), ("x", high), EMPTY) for low, high in ends]


def chains_by_numbers(gaps):
    """All chains, by trying all rows of numbers."""
    many = range(len(gaps))
    rows = [row for length in many for row in itertools.permutations(many, length + 1)]
    return sorted(row for row in rows if is_chain_by_words(gaps, row))


def random_gaps(chance, many, nodes):
    gaps = []
    for k in range(many):
        pairs = [(name, (chance.randrange(-2, 3), 1)) for name in "abc" if chance.randrange(2)]
        gaps.append((chance.choice(nodes), chance.choice(nodes), sum_of((chance.randrange(-2, 3), 1), pairs)))
    return gaps


def stock_abc():
    return Stock([Size("a", ONE, (2, 1), [("b", (1, 2), "big")]), Size("c", (-1, 1), ONE)])


class NodesTest(unittest.TestCase):
    def test_rising_and_each_once(self):
        gaps = [(("y", "a"), ("x", "b"), EMPTY), (("x", "b"), ("x", "ab"), EMPTY), (("x", "a"), ("y", "a"), EMPTY)]
        self.assertEqual(nodes_of(gaps), [("x", "a"), ("x", "ab"), ("x", "b"), ("y", "a")])
        self.assertEqual(nodes_of(tuple(gaps)), nodes_of(gaps))

    def test_none(self):
        self.assertEqual(nodes_of([]), [])

    def test_only_low_or_only_high(self):
        self.assertEqual(nodes_of(gaps_of(["ba", "bc"])), [("x", "a"), ("x", "b"), ("x", "c")])
        self.assertEqual(nodes_of(gaps_of(["aa"])), [("x", "a")])


class ChainsTest(unittest.TestCase):
    def test_none(self):
        for ends in [[], ["ab"], ["ab", "bc", "ac"], ["ab", "ab"]]:
            self.assertEqual(chains_of(gaps_of(ends)), [])

    def test_a_gap_from_a_node_to_itself(self):
        self.assertEqual(chains_of(gaps_of(["aa"])), [(0,)])
        self.assertEqual(chains_of(gaps_of(["ab", "bb", "aa", "ba"])), [(0, 3), (1,), (2,)])

    def test_several_gaps_between_two_nodes(self):
        self.assertEqual(chains_of(gaps_of(["ab", "ba", "ab", "ba"])), [(0, 1), (0, 3), (1, 2), (2, 3)])

    def test_the_least_number_stands_first(self):
        self.assertEqual(chains_of(gaps_of(["bc", "ca", "ab"])), [(0, 1, 2)])
        self.assertEqual(chains_of(gaps_of(["ca", "bc", "ab"])), [(0, 2, 1)])

    def test_no_node_is_the_low_of_two(self):
        self.assertEqual(chains_of(gaps_of(["ab", "ba", "ac", "ca"])), [(0, 1), (2, 3)])
        self.assertEqual(chains_of(gaps_of(["ab", "bc", "cb", "ba"])), [(0, 3), (1, 2)])

    def test_rising(self):
        told = [(0, 1), (0, 2, 4), (0, 3, 5, 4), (2, 6), (3, 5, 6)]
        self.assertEqual(chains_of(gaps_of(["ab", "ba", "bc", "bd", "ca", "dc", "cb"])), told)

    def test_as_by_trying_all_rows_of_numbers(self):
        chance = random.Random(11)
        for k in range(60):
            gaps = random_gaps(chance, chance.randrange(7), NODES[:chance.randrange(1, 5)])
            self.assertEqual(chains_of(gaps), chains_by_numbers(gaps))

    def test_sixteen_gaps_between_six_nodes(self):
        chance = random.Random(12)
        ring = gaps_of(["ab", "ab", "ab", "bc", "bc", "bc", "cd", "cd", "cd", "de", "de", "de", "ef", "ef", "fa", "fa"])
        both = gaps_of(["ab", "bc", "cd", "de", "ef", "fa", "ba", "cb", "dc", "ed", "fe", "af", "ad", "da", "be", "aa"])
        for gaps in [ring, ring[::-1], both, both[::-1]] + [random_gaps(chance, 16, NODES) for k in range(12)]:
            told = chains_of(gaps)
            self.assertEqual(told, chains_by_nodes(gaps))
            self.assertTrue(all(is_chain_by_words(gaps, chain) for chain in told))
        self.assertEqual(len(chains_of(ring)), 324)

    def test_kinds(self):
        told = chains_of(tuple(gaps_of(["ab", "ba"])))
        self.assertIs(type(told), list)
        self.assertIs(type(told[0]), tuple)


class IsChainTest(unittest.TestCase):
    def test_just_the_chains(self):
        chance = random.Random(16)
        for k in range(40):
            gaps = random_gaps(chance, chance.randrange(6), NODES[:chance.randrange(1, 4)])
            chains = chains_by_numbers(gaps)
            many = range(-1, len(gaps) + 1)
            for length in range(4):
                for row in itertools.product(many, repeat=length):
                    self.assertIs(is_chain(gaps, row), row in chains)

    def test_whatever_it_is(self):
        gaps = gaps_of(["ab", "ba"])
        self.assertIs(is_chain(gaps, (0, 1)), True)
        for value in ([0, 1], None, 0, "", "01", (False, True), (0, True), (0, 1.0), ("0", "1"), ((0, 1), (1, 1)), {}):
            self.assertIs(is_chain(gaps, value), False)


class ChainSumTest(unittest.TestCase):
    def test_written_out(self):
        gaps = [
            (("x", "a"), ("x", "b"), sum_of(ONE, [("a", ONE), ("b", (1, 2))])),
            (("x", "b"), ("x", "b"), sum_of((9, 1), [("c", ONE)])),
            (("x", "b"), ("x", "a"), sum_of((-3, 2), [("a", (-1, 1)), ("b", (1, 2))])),
        ]
        self.assertEqual(chain_sum(gaps, (0, 2)), ((-1, 2), (("b", ONE),)))
        self.assertEqual(chain_sum(gaps, (1,)), gaps[1][2])

    def test_by_values(self):
        chance = random.Random(13)
        for k in range(30):
            gaps = random_gaps(chance, 8, NODES[:3])
            making = {name: (chance.randrange(-3, 4), 2 * chance.randrange(2) + 1) for name in "abc"}
            for chain in chains_of(gaps):
                value = sum(Fraction(*sum_at(gaps[k][2], making)) for k in chain)
                self.assertEqual(Fraction(*sum_at(chain_sum(gaps, chain), making)), value)


class TightChainTest(unittest.TestCase):
    def test_none_without_a_chain(self):
        self.assertIsNone(tight_chain([], Stock([])))
        self.assertIsNone(tight_chain(gaps_of(["ab", "bc", "ac"]), stock_abc()))

    def test_written_out(self):
        gaps = [
            (("x", "a"), ("x", "b"), sum_of((3, 1), [("a", (-1, 1))])),
            (("x", "b"), ("x", "a"), sum_of(ONE, [("b", ONE)])),
            (("x", "b"), ("x", "b"), sum_of(ZERO, [("c", ONE)])),
        ]
        making = {"a": (2, 1), "b": (-3, 2), "c": (-1, 1)}
        self.assertEqual(tight_chain(gaps[:2], stock_abc()), ((0, 1), (1, 2), making))
        told = ((2,), (-1, 1), {"a": ONE, "b": ZERO, "c": (-1, 1)})
        self.assertEqual(tight_chain(gaps, stock_abc()), told)

    def test_the_first_of_several(self):
        gaps = gaps_of(["ba", "ab", "ab", "aa", "bb"])
        self.assertEqual(tight_chain(gaps, Stock([])), ((0, 1), ZERO, {}))
        less = (("x", "a"), ("x", "a"), sum_of((-1, 3), []))
        self.assertEqual(tight_chain(gaps + [less, less], Stock([])), ((5,), (-1, 3), {}))

    def test_least_as_numbers_not_as_tuples(self):
        gaps = [(("x", "a"), ("x", "a"), sum_of(number, [])) for number in [(2, 3), (1, 1), (3, 5), (2, 1)]]
        self.assertEqual(tight_chain(gaps, Stock([])), ((2,), (3, 5), {}))

    def test_as_by_all_chains(self):
        chance = random.Random(14)
        stock = stock_abc()
        for k in range(40):
            gaps = random_gaps(chance, chance.randrange(1, 12), NODES[:4])
            leasts = [(Fraction(*stock.lowest(chain_sum(gaps, chain))), chain) for chain in chains_by_nodes(gaps)]
            told = tight_chain(gaps, stock)
            if not leasts:
                self.assertIsNone(told)
                continue
            least, chain = min(leasts)
            self.assertEqual(told[:2], (chain, (least.numerator, least.denominator)))
            self.assertEqual(told[2], stock.lowest_at(chain_sum(gaps, chain)))
            for corner in stock.corners():
                for any_chain in chains_of(gaps):
                    self.assertLessEqual(least, Fraction(*sum_at(chain_sum(gaps, any_chain), corner)))

    def test_of_an_assembly(self):
        box = Part("box", [Size("wide", (4, 1), (5, 1))])
        box.put_face("left", "x", None, EMPTY)
        box.put_face("right", "x", "left", sum_of(ZERO, [("wide", ONE)]))
        lid = Part("lid", [Size("wide", (3, 1), (17, 4))])
        lid.put_face("near", "x", None, EMPTY)
        lid.put_face("far", "x", None, sum_of(ZERO, [("wide", ONE)]))
        assembly = Assembly([box, lid])
        assembly.within(("lid", "near"), ("lid", "far"), ("box", "left"), ("box", "right"))
        told = tight_chain(assembly.gaps(), assembly.stock())
        self.assertEqual(told, ((0, 1), (-1, 4), {"box.wide": (4, 1), "lid.wide": (17, 4)}))

    def test_a_name_that_the_stock_lacks(self):
        with self.assertRaises(NoSum):
            tight_chain([(("x", "a"), ("x", "a"), sum_of(ZERO, [("none", ONE)]))], stock_abc())

    def test_nothing_is_changed_and_all_is_told_anew(self):
        gaps = random_gaps(random.Random(15), 12, NODES[:3])
        kept, stock = copy.deepcopy(gaps), stock_abc()
        tight, chains, nodes = tight_chain(gaps, stock), chains_of(gaps), nodes_of(gaps)
        self.assertEqual(gaps, kept)
        tight_chain(gaps, stock)[2].clear()
        chains_of(gaps).clear()
        nodes_of(gaps).clear()
        self.assertEqual((tight_chain(gaps, stock), chains_of(gaps), nodes_of(gaps)), (tight, chains, nodes))


if __name__ == "__main__":
    unittest.main()
