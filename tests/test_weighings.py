import copy
import random
import unittest
from fractions import Fraction

from fitwhatever.errors import NoFit
from fitwhatever.places import gap_at, least_places
from fitwhatever.stocks import Size, Stock
from fitwhatever.sums import sum_of
from fitwhatever.weighcheck import kept_by, never_holds, weighs
from fitwhatever.weighings import most_of
from helpers import (
    ONE, WAYS, ZERO, boxed, goes_together, most_by_paths, number, random_gaps, random_making, random_stock, value_at)

NINES = 10 ** 18 - 1
A, B, C, D = ("x", "a"), ("x", "b"), ("x", "c"), ("y", "a")
NODES = [A, B, C, D]
NONE = Stock([])


def link(low, high, value, *pairs):
    return (low, high, sum_of(number(value), [(name, number(factor)) for name, factor in pairs]))


def wide_stock():
    """A size from 1 to 2 with a shift that grows with it, and one from -1 to 1."""
    return Stock([Size("wide", ONE, (2, 1), [("off", (1, 2), "big")]), Size("low", (-1, 1), ONE)])


class MostOfTest(unittest.TestCase):
    def told(self, target, gaps, stock):
        """What is told of a target, its paper held by the checkers and by the words of point 17."""
        before = copy.deepcopy((target, gaps))
        told = most_of(target, gaps, stock)
        self.assertEqual((target, gaps), before)
        self.assertIs(type(told), tuple)
        getattr(self, "hold_" + told[0])(target, gaps, stock, *told[1:])
        return told

    def hold_weights(self, gaps, weights):
        self.assertIs(type(weights), tuple)
        self.assertEqual(len(weights), len(gaps))
        self.assertTrue(all(weight == number(Fraction(*weight)) and weight[0] >= 0 for weight in weights))

    def hold_most(self, target, gaps, stock, value, making, places, weights):
        self.assertEqual([type(making), type(places)], [dict, dict])
        self.assertIs(stock.keeps(making), True)
        self.assertEqual(set(places), {node for gap in list(gaps) + [target] for node in gap[:2]})
        self.assertIs(kept_by(gaps, stock, making, places), True)
        for low, high, a in gaps:
            self.assertGreaterEqual(Fraction(*places[high]) - Fraction(*places[low]) + value_at(a, making), 0)
        self.assertEqual(gap_at(target, making, places), value)
        self.assertEqual(value, number(Fraction(*value)))
        self.hold_weights(gaps, weights)
        self.assertIs(weighs(target, gaps, stock, weights, value), True)

    def hold_none(self, target, gaps, stock, weights):
        self.hold_weights(gaps, weights)
        self.assertIs(never_holds(gaps, stock, weights), True)

    def hold_open(self, target, gaps, stock):
        self.assertNotEqual(target[0], target[1])
        # What is no way back from the high to the low bounds nothing.
        seen = {target[1]}
        for turn in gaps:
            seen |= {high for low, high, a in gaps if low in seen}
        self.assertNotIn(target[0], seen)

    def most(self, value, target, gaps, stock):
        told = self.told(target, gaps, stock)
        self.assertEqual(told[:2], ("most", number(value)))
        return told

    def test_two_nodes(self):
        gaps = [link(A, B, 1, ("wide", -1)), link(B, A, 0, ("low", 1))]
        for handed in (gaps, tuple(gaps)):
            # b is from wide - 1 above a on, up to low above it: low can be 1, so wide can be 2.
            self.most(1, link(A, B, 0), handed, wide_stock())
            self.most(0, link(B, A, 0), handed, wide_stock())
            self.most("5/2", link(A, B, 0, ("off", 1)), handed, wide_stock())
            self.most(1, link(B, A, 0, ("wide", -1), ("low", 2)), handed, wide_stock())

    def test_one_node(self):
        gaps = [link(A, B, 1, ("wide", -1)), link(B, A, "-1/2", ("low", 1))]
        # low is at least wide - 1/2, and off at least 1/2 - wide.
        self.most(1, link(A, A, 0, ("low", 1)), gaps, wide_stock())
        self.most("-1/2", link(A, A, 0, ("low", -1)), gaps, wide_stock())
        self.most("3/2", link(B, B, 0, ("wide", 1)), gaps, wide_stock())
        told = self.most(1, link(C, C, 0, ("off", 1)), gaps, wide_stock())
        self.assertEqual(set(told[3]), {A, B, C})

    def test_a_making_that_is_no_corner(self):
        gaps = [link(A, A, "-3/2", ("wide", 1)), link(B, B, "3/2", ("wide", -1)), link(A, A, "-1/3", ("low", -1))]
        told = self.most("7/6", link(A, A, 0, ("wide", 1), ("low", 1)), gaps, wide_stock())
        self.assertEqual((told[2]["wide"], told[2]["low"]), ((3, 2), (-1, 3)))

    def test_shifts_of_each_way(self):
        for way, value in (("fixed", "1/3"), ("big", "4/3"), ("small", "4/3")):
            stock = Stock([Size("wide", ONE, (2, 1), [("off", (1, 3), way)])])
            self.most(value, link(A, A, 0, ("off", 1)), [], stock)
            self.most(value, link(A, A, 0, ("off", -1)), [], stock)
        for way, low, high in (("fixed", "7/3", "-2/3"), ("big", "10/3", "-2/3"), ("small", "7/3", "1/3")):
            stock = Stock([Size("wide", ONE, (2, 1), [("off", (1, 3), way)])])
            self.most(low, link(A, A, 0, ("off", 1), ("wide", 1)), [], stock)
            self.most(high, link(A, A, 0, ("off", 1), ("wide", -1)), [], stock)
            self.most(high, link(A, B, 0, ("wide", -1)), [link(B, A, 0, ("off", 1))], stock)

    def test_several_shifts(self):
        stock = Stock([Size("wide", (-1, 1), ONE, [("b", ZERO, "big"), ("s", ZERO, "small"), ("f", ONE, "fixed")])])
        # The rooms of b and s come to 2 in all.
        self.most(3, link(A, A, 0, ("b", 1), ("s", -1), ("f", 1)), [], stock)
        told = self.most(5, link(A, A, 0, ("b", 2), ("s", 1), ("f", 1)), [], stock)
        self.assertEqual(told[2], {"wide": ONE, "b": (2, 1), "s": ZERO, "f": ONE})

    def test_open(self):
        gaps = [link(A, B, 1, ("wide", -1)), link(C, C, 1)]
        for target in (link(A, B, 0), link(C, A, 7, ("low", 1)), link(A, C, 0), link(A, D, 0), link(D, A, 0)):
            self.assertEqual(self.told(target, gaps, wide_stock()), ("open",))
        self.most(-1, link(B, A, 0, ("wide", -1)), gaps, wide_stock())

    def test_none(self):
        gaps = [link(A, B, "1/2", ("wide", -1)), link(B, A, -1, ("low", 1)), link(A, C, 5)]
        for target in (link(A, B, 0), link(A, A, 3), link(D, D, 0, ("low", 1)), link(A, D, 0), link(C, B, 0)):
            self.assertEqual(self.told(target, gaps, wide_stock())[0], "none")
        self.assertEqual(self.told(link(A, A, 3), [link(B, B, "-1/9")], NONE)[0], "none")
        # Each chain can be kept, but not both by one making.
        gaps = [link(A, A, "-1/2", ("low", 1)), link(B, B, "-1/2", ("low", -1))]
        told = self.told(link(A, B, 0), gaps, wide_stock())
        self.assertEqual(told[0], "none")
        self.assertTrue(told[1][0][0] > 0 and told[1][1][0] > 0)

    def test_just_kept_and_just_not(self):
        for value, word in (("-3/2", "most"), (Fraction(-3, 2) - Fraction(1, NINES), "none")):
            gaps = [link(A, B, 0, ("off", 1), ("low", -1)), link(B, A, value, ("low", 1))]
            told = self.told(link(A, A, 0, ("wide", 1)), gaps, wide_stock())
            self.assertEqual(told[0], word)
        told = self.told(link(A, A, 0, ("wide", -1)), [link(A, A, "-3/2", ("off", 1))], wide_stock())
        self.assertEqual(told[:3], ("most", (-2, 1), {**told[2], "wide": (2, 1), "off": (3, 2)}))

    def test_without_gaps(self):
        for gaps in ([], ()):
            self.assertEqual(self.told(link(A, A, "3/7"), gaps, NONE), ("most", (3, 7), {}, {A: ZERO}, ()))
            self.assertEqual(self.told(link(A, B, "3/7"), gaps, NONE), ("open",))
            self.most(4, link(B, B, 1, ("low", -1), ("wide", 1)), gaps, wide_stock())

    def test_stocks_without_sizes(self):
        gaps = [link(A, B, -3), link(B, C, 1), link(C, A, "5/2")]
        self.most("7/2", link(A, B, 0), gaps, NONE)
        self.most("9/2", link(A, C, 2), gaps, NONE)
        self.most(-3, link(B, A, 0), gaps, NONE)
        self.assertEqual(self.told(link(A, B, 0), gaps[:2] + [link(C, A, "3/2")], NONE)[0], "none")

    def test_sizes_of_one_value(self):
        stock = Stock([Size("wide", (5, 3), (5, 3), [("off", ZERO, "big")])])
        self.most("5/3", link(A, A, 0, ("wide", 1), ("off", 7)), [], stock)
        self.most("5/3", link(A, B, 0), [link(B, A, 0, ("wide", 1)), link(A, B, 0, ("off", 1))], stock)

    def test_gaps_alike_and_gaps_of_one_node(self):
        gaps = [link(B, A, 1), link(B, A, 1), link(B, A, 1), link(A, A, 0), link(B, B, 0, ("low", 1))]
        self.most(1, link(A, B, 0, ("low", -1)), gaps, wide_stock())

    def test_held_against_all_corners(self):
        chance = random.Random(60)
        words = []
        for k in range(500):
            stock = random_stock(chance, 4) if k % 9 else NONE
            nodes = NODES[:chance.randrange(1, 4)]
            gaps = random_gaps(chance, stock, chance.randrange(7), nodes, chance.choice([1, 9]))
            target = random_gaps(chance, stock, 1, NODES[:3])[0]
            told = self.told(target, gaps, stock)
            words.append(told[0])
            for making in stock.corners() + [random_making(chance, stock)]:
                if goes_together(gaps, making):
                    self.assertNotEqual(told[0], "none")
                    most = most_by_paths(target, gaps, making)
                    self.assertEqual(most is None, told[0] == "open")
                    if most is not None:
                        self.assertLessEqual(most, Fraction(*told[1]))
        self.assertGreater(min(words.count(word) for word in ("most", "open", "none")), 60)

    def test_the_same_most_as_of_one_making(self):
        chance = random.Random(61)
        many = 0
        for k in range(200):
            stock = random_stock(chance, 3)
            making = random_making(chance, stock)
            for size in stock.sizes():
                stock = stock.with_bounds(size.name, making[size.name], making[size.name])
            fixed = Stock([Size(size.name, size.least, size.most) for size in stock.sizes()])
            gaps = random_gaps(chance, fixed, chance.randrange(6), NODES[:3], 9)
            target = random_gaps(chance, fixed, 1, NODES[:3])[0]
            told = self.told(target, gaps, fixed)
            try:
                least_places(gaps, making)
            except NoFit:
                self.assertEqual(told[0], "none")
                continue
            most = most_by_paths(target, gaps, making)
            self.assertEqual(told[:2], ("open",) if most is None else ("most", number(most)))
            many += told[0] == "most"
        self.assertGreater(many, 40)

    def test_sixteen_gaps_and_twelve_names(self):
        stock = Stock([Size(name, ONE, (2, 1), [(name + "s", (1, 3), way)]) for name, way in zip("abcdef", WAYS * 2)])
        names = stock.names()
        ends = ["ab", "bc", "cd", "de", "ef", "fa", "ba", "cb", "dc", "ed", "fe", "af", "ad", "da", "be", "eb"]
        words = []
        for base in (4, 1, 0, "-1/3", -1):
            gaps = [link(("x", low), ("x", high), base, (names[k % 12], 1), (names[(5 * k + 1) % 12], "-1/2"))
                    for k, (low, high) in enumerate(ends)]
            words.append(self.told(link(("x", "a"), ("x", "f"), 0, ("as", 1)), gaps, stock)[0])
        self.assertEqual((words[0], words[-1]), ("most", "none"))

    def test_numbers_of_eighteen_figures(self):
        stock = Stock([Size("a", (NINES - 1, NINES), (NINES, NINES - 1), [("b", (1, NINES), "big")]),
                       Size("c", (-NINES, 2), (NINES, 2), [("d", (2, NINES - 2), "small")])])
        gaps = [link(A, B, Fraction(1, NINES), ("a", Fraction(NINES, 2)), ("c", Fraction(1, NINES - 4))),
                link(B, A, Fraction(NINES, 5), ("b", -1), ("d", Fraction(-7, NINES))), link(A, A, 0, ("a", 1))]
        self.assertEqual(self.told(link(A, B, 0, ("d", NINES)), gaps, stock)[0], "most")
        gaps.append(link(A, A, -Fraction(NINES, NINES - 1) - Fraction(1, NINES - 1), ("a", 1)))
        self.assertEqual(self.told(link(A, B, 0, ("d", NINES)), gaps, stock)[0], "none")

    def test_of_an_assembly(self):
        assembly = boxed(3, "9/2")
        target = (("x", "box"), ("x", "pin"), sum_of(ZERO, []))
        told = self.most(2, target, assembly.gaps(), assembly.stock())
        self.assertEqual(told[2], {"box.wide": (5, 1), "pin.wide": (3, 1)})
        tight = assembly.with_bounds("pin.wide", (5, 1), (6, 1))
        self.most(0, target, tight.gaps(), tight.stock())
        never = assembly.with_bounds("pin.wide", (51, 10), (6, 1))
        self.assertEqual(self.told(target, never.gaps(), never.stock())[0], "none")

    def test_told_anew(self):
        gaps, stock = [link(A, B, 1, ("wide", -1)), link(B, A, 0, ("low", 1))], wide_stock()
        told = most_of(link(A, B, 0), gaps, stock)
        kept = copy.deepcopy(told)
        told[2].clear()
        told[3].clear()
        self.assertEqual(most_of(link(A, B, 0), gaps, stock), kept)


if __name__ == "__main__":
    unittest.main()
