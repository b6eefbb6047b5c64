import copy
import itertools
import random
import unittest
from fractions import Fraction

from fitwhatever.assemblies import Assembly
from fitwhatever.chains import nodes_of
from fitwhatever.parts import Part
from fitwhatever.stocks import Size, Stock
from fitwhatever.sums import sum_minus, sum_of, sum_plus
from fitwhatever.tablecheck import table_holds
from fitwhatever.tables import table_of
from helpers import always_goes_together, goes_together, number, random_gaps, random_making, random_stock, random_sum

ZERO = (0, 1)
ONE = (1, 1)
A, B, C, D = ("x", "a"), ("x", "b"), ("x", "c"), ("y", "a")
NODES = [A, B, C, D]
NONE = Stock([])


def plain(low, high, value):
    """A link without names."""
    return (low, high, sum_of(number(value), []))


def named(low, high, value, *pairs):
    return (low, high, sum_of(number(value), [(name, number(factor)) for name, factor in pairs]))


def wide_stock():
    """A size from 1 to 2 with a shift that grows with it, and one from -1 to 1."""
    return Stock([Size("wide", ONE, (2, 1), [("off", (1, 2), "big")]), Size("low", (-1, 1), ONE)])


def table_by_paths(gaps, order):
    """A table of all paths of unlike nodes, as somebody else might write it."""
    nodes, rows = nodes_of(gaps), []
    for length in range(2, len(nodes) + 1):
        for path in itertools.permutations(nodes, length):
            choices = [[gap[2] for gap in gaps if gap[:2] == ends] for ends in zip(path, path[1:])]
            for sums in itertools.product(*choices):
                total = sums[0]
                for a in sums[1:]:
                    total = sum_plus(total, a)
                rows.append((path[0], path[-1], total))
    return (tuple(order), tuple(rows))


def is_good(gaps, stock, table):
    """Whether a table is good, by the words of point 14, with the least looked for at all corners."""
    order, rows = table
    corners = stock.corners()

    def is_above(a):
        values = [Fraction(*a[0]) + sum(Fraction(*f) * Fraction(*corner[name]) for name, f in a[1])
                  for corner in corners]
        return min(values) >= 0

    def is_carried(low, high, a):
        if low == high:
            return is_above(a)
        return any(row[:2] == (low, high) and is_above(sum_minus(a, row[2])) for row in rows)

    if sorted(order) != nodes_of(gaps) or any(row[0] == row[1] or not {row[0], row[1]} <= set(order) for row in rows):
        return False
    if not all(is_carried(*gap) for gap in gaps):
        return False
    at = {node: k for k, node in enumerate(order)}
    for (p, v, f), (w, q, g) in itertools.product(rows, rows):
        if v == w and at[p] > at[v] and at[q] > at[v] and not is_carried(p, q, sum_plus(f, g)):
            return False
    return True


class GoodTablesTest(unittest.TestCase):
    def good(self, gaps, stock, order, rows):
        self.assertIs(table_holds(gaps, stock, (tuple(order), tuple(rows))), True)

    def test_without_gaps(self):
        for gaps in ([], ()):
            self.good(gaps, NONE, (), ())
            self.good(gaps, wide_stock(), (), ())

    def test_gaps_from_a_node_to_itself(self):
        self.good([plain(A, A, 0)], NONE, [A], [])
        self.good([named(A, A, "1/2", ("off", 1), ("wide", 1)), plain(B, B, 3)], wide_stock(), [B, A], [])

    def test_one_gap(self):
        for order in ([A, B], [B, A]):
            self.good([plain(A, B, -7)], NONE, order, [plain(A, B, -7)])
            self.good([plain(A, B, -7)], NONE, order, [plain(A, B, -8)])
            self.good([plain(A, B, -7)], NONE, order, [plain(A, B, 5), plain(A, B, -8), plain(A, B, -8)])
            self.good([plain(A, B, -7)], NONE, order, [plain(A, B, -7), plain(B, A, 7)])

    def test_two_gaps_that_just_go(self):
        gaps = [named(A, B, 0, ("wide", -1)), named(B, A, 0, ("wide", 1))]
        for order in ([A, B], [B, A]):
            self.good(gaps, wide_stock(), order, gaps)

    def test_a_row_that_carries_several_gaps(self):
        gaps = [named(A, B, 1, ("wide", 1)), named(A, B, 0, ("low", 1)), named(A, B, 2, ("off", 1))]
        self.good(gaps, wide_stock(), [A, B], [plain(A, B, -1)])

    def test_links_behind_a_node(self):
        gaps = [named(A, B, 0, ("wide", 1)), named(B, C, 0, ("low", 1))]
        self.good(gaps, wide_stock(), [B, A, C], gaps + [named(A, C, 0, ("wide", 1), ("low", 1))])
        self.good(gaps, wide_stock(), [B, A, C], gaps + [plain(A, C, 0)])
        self.good(gaps, wide_stock(), [B, C, A], gaps + [plain(A, C, -3), plain(A, C, 9)])
        # Without a node behind it to both sides B needs no link.
        for order in ([A, B, C], [A, C, B], [C, A, B], [C, B, A]):
            self.good(gaps, wide_stock(), order, gaps)

    def test_by_way_of_a_shift(self):
        # off is from -(1/2 + wide - 1) to that: so wide more off is never below 1/2.
        gaps = [named(A, B, 0, ("wide", 1)), named(B, A, "-1/2", ("off", 1))]
        self.good(gaps, wide_stock(), [A, B], gaps)

    def test_such_as_no_program_wrote(self):
        chance = random.Random(30)
        many = 0
        for k in range(150):
            stock = random_stock(chance, 4) if k % 5 else NONE
            gaps = random_gaps(chance, stock, chance.randrange(6), NODES[:chance.randrange(1, 5)], 15)
            if always_goes_together(gaps, stock):
                many += 1
                order = nodes_of(gaps)
                chance.shuffle(order)
                order, rows = table_by_paths(gaps, order)
                self.good(gaps, stock, order, rows)
                self.good(gaps, stock, order, rows[::-1] + rows)
        self.assertGreater(many, 40)

    def test_numbers_as_long_as_they_come(self):
        long = 10 ** 50
        gaps = [plain(A, B, 1), plain(B, A, -1)]
        self.good(gaps, NONE, [A, B], gaps)
        self.assertIs(table_holds([gaps[0]], NONE, ((A, B), (plain(A, B, 1 - Fraction(1, long)),))), True)
        self.assertIs(table_holds([gaps[0]], NONE, ((A, B), (plain(A, B, 1 + Fraction(1, long)),))), False)


class NoGoodTablesTest(unittest.TestCase):
    def bad(self, gaps, stock, order, rows):
        self.assertIs(table_holds(gaps, stock, (tuple(order), tuple(rows))), False)

    def test_an_order_that_is_none(self):
        gaps = [plain(A, B, 0), plain(B, C, 0)]
        rows = gaps + [plain(A, C, 0)]
        self.assertIs(table_holds(gaps, NONE, ((A, B, C), tuple(rows))), True)
        for order in [(), (A,), (A, B), (B, C), (A, B, C, D), (A, B, C, C), (A, A, B), (A, B, D), (A, B, B),
                      (A, B, C, A), (D, A, B, C), (A, B, ("y", "c"))]:
            self.bad(gaps, NONE, order, rows)
        self.bad([], NONE, [A], [])
        self.bad([plain(A, A, 0)], NONE, [], [])
        self.bad([plain(A, A, 0)], NONE, [A, A], [])
        self.bad([plain(A, A, 0)], NONE, [B], [])

    def test_a_row_of_one_node(self):
        gaps = [plain(A, B, 0)]
        for node in (A, B):
            self.bad(gaps, NONE, [A, B], gaps + [plain(node, node, 5)])
        self.bad([plain(A, A, 0)], NONE, [A], [plain(A, A, 0)])

    def test_a_row_of_a_node_that_is_not_there(self):
        gaps = [plain(A, B, 0)]
        for row in (plain(A, C, 5), plain(C, A, 5), plain(B, ("y", "b"), 5), plain(C, D, 5), plain(C, C, 5)):
            self.bad(gaps, NONE, [A, B], gaps + [row])
            self.bad(gaps, NONE, [A, B], [row] + gaps)

    def test_a_name_that_is_not_there(self):
        gaps = [plain(A, B, 0), plain(B, C, 0)]
        self.bad(gaps, wide_stock(), [B, A, C], gaps + [named(A, C, 0, ("none", 1))])
        self.bad(gaps, wide_stock(), [B, A, C], gaps + [plain(A, C, 0), named(B, A, 0, ("none", 1))])
        # Not even where its factors come to 0 in each link.
        rows = [named(A, B, 0, ("none", 1)), plain(A, B, 0), plain(B, C, 0)]
        self.bad(gaps, wide_stock(), [A, B, C], rows)
        self.bad(gaps, NONE, [A, B, C], [plain(A, B, 0), plain(B, C, 0), named(B, C, 1, ("wide", 1))])
        self.bad([named(A, B, 0, ("wide", 1))], NONE, [A, B], [plain(A, B, -9)])
        self.bad([named(A, A, 0, ("wide", 1))], NONE, [A], [])

    def test_a_gap_that_is_not_carried(self):
        self.bad([plain(A, B, 0)], NONE, [A, B], [])
        self.bad([plain(A, B, 0)], NONE, [A, B], [plain(B, A, 0)])
        self.bad([plain(A, B, 0)], NONE, [A, B], [plain(A, B, "1/9")])
        self.bad([plain(A, B, 0), plain(A, B, -1)], NONE, [A, B], [plain(A, B, 0)])
        self.bad([named(A, B, 0, ("wide", 1))], wide_stock(), [A, B], [plain(A, B, "3/2")])
        self.bad([named(A, B, 0, ("wide", 1))], wide_stock(), [A, B], [named(A, B, "3/4", ("off", 1))])
        # Each row carries it by some makings, none by all.
        self.bad([named(A, B, 0, ("low", 1))], wide_stock(), [A, B], [plain(A, B, 0), named(A, B, 0, ("low", 2))])

    def test_a_gap_from_a_node_to_itself(self):
        self.bad([plain(A, A, "-1/9")], NONE, [A], [])
        self.bad([named(A, A, "1/3", ("off", 1), ("wide", -1))], wide_stock(), [A], [])
        self.bad([plain(A, B, 0), plain(B, B, -1)], NONE, [A, B], [plain(A, B, 0)])

    def test_two_rows_whose_link_is_not_carried(self):
        gaps = [named(A, B, 0, ("wide", 1)), named(B, C, 0, ("low", 1))]
        for order in ([B, A, C], [B, C, A]):
            self.bad(gaps, wide_stock(), order, gaps)
            self.bad(gaps, wide_stock(), order, gaps + [named(A, C, "1/9", ("wide", 1), ("low", 1))])
            self.bad(gaps, wide_stock(), order, gaps + [plain(A, C, "1/9")])
            self.bad(gaps, wide_stock(), order, gaps + [plain(C, A, 0)])

    def test_two_rows_there_and_back(self):
        gaps = [plain(A, B, -2), plain(B, A, "17/9")]
        for order in ([A, B], [B, A]):
            self.bad(gaps, NONE, order, gaps)
            self.bad(gaps[:1], NONE, order, gaps)
        gaps = [named(A, B, 0, ("wide", -1)), named(B, A, "199/100")]
        self.bad(gaps, wide_stock(), [A, B], gaps)

    def test_a_link_of_the_last_nodes(self):
        gaps = [plain(A, B, 1), plain(B, C, 1), plain(C, A, -3)]
        for order in itertools.permutations([A, B, C]):
            for extra in ([], [plain(A, C, 2), plain(B, A, -2), plain(C, B, -2)]):
                self.bad(gaps, NONE, order, gaps + extra)

    def test_any_row_that_is_needed_left_out(self):
        gaps = [named(A, B, 3, ("wide", -1)), named(B, C, 0, ("low", 1)), named(C, A, 2, ("off", 1)), plain(B, D, 0),
                plain(D, A, 3)]
        order, rows = table_of(gaps, wide_stock())
        for k in range(len(rows)):
            self.bad(gaps, wide_stock(), order, rows[:k] + rows[k + 1:])

    def test_of_other_gaps_or_another_stock(self):
        gaps = [named(A, B, 2, ("wide", -1)), plain(B, A, 0)]
        table = table_of(gaps, wide_stock())
        self.assertIs(table_holds(gaps, wide_stock(), table), True)
        self.assertIs(table_holds(gaps, wide_stock().with_bounds("wide", ONE, (21, 10)), table), False)
        self.assertIs(table_holds(gaps + [plain(A, B, -1)], wide_stock(), table), False)
        self.assertIs(table_holds([plain(C, B, 0), plain(B, C, 0)], wide_stock(), table), False)
        self.assertIs(table_holds(gaps, NONE, table), False)

    def test_good_just_by_the_words(self):
        chance = random.Random(31)
        told = []
        for k in range(500):
            stock = random_stock(chance, 3) if k % 5 else NONE
            gaps = random_gaps(chance, stock, chance.randrange(1, 5), NODES[:chance.randrange(1, 4)], 15)
            order = nodes_of(gaps)
            chance.shuffle(order)
            rows = list(table_by_paths(gaps, order)[1])
            for j in range(chance.randrange(3)):
                if rows and chance.randrange(2):
                    at = chance.randrange(len(rows))
                    rows[at] = rows[at][:2] + (sum_plus(rows[at][2], random_sum(chance, stock)),)
                elif rows:
                    rows.pop(chance.randrange(len(rows)))
            table = (tuple(order), tuple(rows))
            told.append(table_holds(gaps, stock, table))
            self.assertIs(told[-1], is_good(gaps, stock, table))
            if told[-1]:
                self.assertTrue(always_goes_together(gaps, stock))
                self.assertTrue(goes_together(gaps, random_making(chance, stock)))
        self.assertGreater(min(told.count(True), told.count(False)), 100)

    def test_nothing_is_changed(self):
        gaps = [named(A, B, 2, ("wide", -1)), plain(B, A, 0)]
        table = table_of(gaps, wide_stock())
        before = copy.deepcopy((gaps, table))
        table_holds(gaps, wide_stock(), table)
        self.assertEqual((gaps, table), before)


class TableOfTest(unittest.TestCase):
    def told(self, gaps, stock):
        """The table, which must be good."""
        before = copy.deepcopy(gaps)
        table = table_of(gaps, stock)
        self.assertEqual(gaps, before)
        if table is not None:
            self.assertIs(type(table), tuple)
            self.assertEqual([type(table[0]), type(table[1])], [tuple, tuple])
            self.assertEqual(sorted(table[0]), nodes_of(gaps))
            self.assertIs(table_holds(gaps, stock, table), True)
            self.assertTrue(is_good(gaps, stock, table))
        return table

    def test_without_gaps(self):
        for gaps in ([], ()):
            self.assertEqual(self.told(gaps, NONE), ((), ()))
            self.assertEqual(self.told(gaps, wide_stock()), ((), ()))

    def test_gaps_from_a_node_to_itself(self):
        self.assertEqual(self.told([plain(A, A, 0)], NONE), ((A,), ()))
        self.assertIsNone(self.told([plain(A, A, "-1/9")], NONE))
        self.assertIsNotNone(self.told([named(A, A, -1, ("wide", 1)), plain(A, B, -5)], wide_stock()))
        self.assertIsNone(self.told([plain(A, B, -5), named(A, A, -2, ("wide", 1))], wide_stock()))

    def test_gaps_that_just_go_and_just_do_not(self):
        for value, goes in (("1/2", True), ("49/100", False)):
            gaps = [named(A, B, 0, ("wide", 1)), plain(B, C, -1), named(C, A, value, ("off", 1))]
            self.assertEqual(self.told(gaps, wide_stock()) is not None, goes)

    def test_a_making_that_is_no_corner_of_one_chain(self):
        # Each chain has its least at another corner.
        gaps = [named(A, B, 1, ("low", 1)), plain(B, A, 0), named(A, C, 1, ("low", -1)), plain(C, A, 0)]
        self.assertIsNotNone(self.told(gaps, wide_stock()))
        self.assertIsNone(self.told(gaps + [plain(B, C, "-1/9"), plain(C, B, 0)], wide_stock()))

    def test_held_against_all_corners(self):
        chance = random.Random(32)
        told = []
        for k in range(400):
            stock = random_stock(chance, 4) if k % 7 else NONE
            nodes = NODES[:chance.randrange(1, 5)]
            gaps = random_gaps(chance, stock, chance.randrange(9), nodes, chance.choice([4, 12, 20]))
            told.append(self.told(gaps, stock) is not None)
            self.assertIs(told[-1], always_goes_together(gaps, stock))
        self.assertGreater(min(told.count(True), told.count(False)), 100)

    def test_sixteen_gaps_and_twelve_names(self):
        stock = Stock([Size(name, ONE, (2, 1), [(name + "s", (1, 3), way)])
                       for name, way in zip("abcdef", ["fixed", "big", "small"] * 2)])
        names = stock.names()
        ring = ["ab", "ab", "ab", "bc", "bc", "bc", "cd", "cd", "cd", "de", "de", "de", "ef", "ef", "fa", "fa"]
        both = ["ab", "bc", "cd", "de", "ef", "fa", "ba", "cb", "dc", "ed", "fe", "af", "ad", "da", "be", "eb"]
        for ends in (ring, both):
            gaps = [named(("x", low), ("x", high), 4, (names[k % 12], 1), (names[(5 * k + 1) % 12], -1))
                    for k, (low, high) in enumerate(ends)]
            self.assertIs(table_holds(gaps, stock, table_of(gaps, stock)), True)
            self.assertIsNone(table_of(gaps[:-1] + [named(*gaps[-1][:2], -40)], stock))

    def test_of_an_assembly(self):
        box = Part("box", [Size("wide", (4, 1), (5, 1))])
        box.put_face("left", "x", None, (ZERO, ()))
        box.put_face("right", "x", "left", sum_of(ZERO, [("wide", ONE)]))
        pin = Part("pin", [Size("wide", (3, 1), (4, 1))])
        pin.put_face("left", "x", None, (ZERO, ()))
        pin.put_face("right", "x", "left", sum_of(ZERO, [("wide", ONE)]))
        assembly = Assembly([box, pin])
        assembly.within(("pin", "left"), ("pin", "right"), ("box", "left"), ("box", "right"))
        self.assertIsNotNone(self.told(assembly.gaps(), assembly.stock()))
        wider = assembly.with_bounds("pin.wide", (3, 1), (401, 100))
        self.assertIsNone(self.told(wider.gaps(), wider.stock()))


if __name__ == "__main__":
    unittest.main()
