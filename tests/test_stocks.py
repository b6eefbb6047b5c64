import copy
import itertools
import random
import unittest
from fractions import Fraction

from fitwhatever.errors import NoSize, NoSum
from fitwhatever.stocks import Size, Stock
from fitwhatever.sums import sum_at, sum_of, sum_times
from helpers import WAYS, number, random_making, random_stock, random_sum, room_of

NINES = 10 ** 18 - 1
ZERO = (0, 1)
MOST_NAMES = ["a." + "9" * 28, "z" * 30, "." * 30, "0", "a", ".", "bolt.wide2"]
NO_NAMES = ["", "z" * 31, "A", "aB", "a b", " a", "a ", "a_b", "a-b", "a\n", "\n", "a,b", "a~", None, 7, ("a",)]


def fields(sizes):
    return [(size.name, size.least, size.most, size.shifts) for size in sizes]


def wide_size():
    """A size from 1 to 3 with a shift of each way."""
    return Size("wide", (1, 1), (3, 1), [("f", (1, 2), "fixed"), ("b", (1, 4), "big"), ("s", (1, 8), "small")])


def corners_of(stock):
    """The corners by trying both ends of every name, sorting, and leaving out what comes again."""
    names, rows = stock.names(), []
    for ends in itertools.product([0, 1], repeat=len(names)):
        row, at = [], 0
        for size in stock.sizes():
            value = Fraction(*(size.most if ends[at] else size.least))
            row.append(value)
            for shift in size.shifts:
                at += 1
                row.append(room_of(size, shift[0], value) * (1 if ends[at] else -1))
            at += 1
        rows.append(tuple(row))
    return [dict(zip(names, [number(value) for value in row])) for row in sorted(set(rows))]


def lowest_at_of(stock, a):
    """The making for a least, by the words of point 8, with Python's own fractions."""
    factors, making = {name: Fraction(*factor) for name, factor in a[1]}, {}
    for size in stock.sizes():
        tries = []
        for end in (size.least, size.most):
            value = Fraction(*end)
            told = {size.name: value}
            for shift in size.shifts:
                factor = factors.get(shift[0], 0)
                sign = -1 if factor > 0 else 1 if factor < 0 else 0
                told[shift[0]] = sign * room_of(size, shift[0], value)
            tries.append((sum(factors.get(name, 0) * told[name] for name in told), told))
        making.update(tries[1][1] if tries[1][0] < tries[0][0] else tries[0][1])
    return {name: number(value) for name, value in making.items()}


class SizeTest(unittest.TestCase):
    def test_fields(self):
        size = wide_size()
        told = (("f", (1, 2), "fixed"), ("b", (1, 4), "big"), ("s", (1, 8), "small"))
        self.assertEqual(fields([size]), [("wide", (1, 1), (3, 1), told)])
        self.assertIs(type(size.shifts), tuple)

    def test_shifts_of_a_list_a_tuple_or_none(self):
        shifts = [("f", (1, 2), "fixed"), ("b", (0, 1), "big")]
        for handed in (shifts, tuple(shifts)):
            self.assertEqual(Size("a", ZERO, ZERO, handed).shifts, tuple(shifts))
        for size in [Size("a", ZERO, ZERO), Size("a", ZERO, ZERO, None), Size("a", ZERO, ZERO, []),
                     Size("a", ZERO, ZERO, ())]:
            self.assertEqual(size.shifts, ())
        self.assertEqual(Size(name="a", least=ZERO, most=ZERO, shifts=shifts).shifts, tuple(shifts))

    def test_names(self):
        self.assertEqual(wide_size().names(), ["wide", "f", "b", "s"])
        self.assertEqual(Size("a", ZERO, ZERO).names(), ["a"])

    def test_room(self):
        size = wide_size()
        for value, fixed, big, small in [
            ((1, 1), (1, 2), (1, 4), (17, 8)), ((3, 1), (1, 2), (9, 4), (1, 8)), ((2, 1), (1, 2), (5, 4), (9, 8)),
            ((4, 3), (1, 2), (7, 12), (43, 24)),
        ]:
            self.assertEqual([size.room(shift, value) for shift in "fbs"], [fixed, big, small])

    def test_room_of_no_shift(self):
        for shift in ["none", "wide"]:
            with self.assertRaises(NoSize):
                wide_size().room(shift, (1, 1))

    def test_room_of_eighteen_figures(self):
        size = Size("a", (-NINES, 1), (NINES, 1), [("b", (1, NINES), "big"), ("s", (0, 1), "small")])
        self.assertEqual(size.room("b", (NINES, 1)), number(2 * NINES + Fraction(1, NINES)))
        self.assertEqual(size.room("s", (-NINES, 1)), (2 * NINES, 1))

    def test_good_names(self):
        for name in MOST_NAMES:
            self.assertEqual(Size(name, ZERO, ZERO).name, name)
            self.assertEqual(Size("b", ZERO, ZERO, [(name, ZERO, "big")]).names(), ["b", name])

    def test_names_that_are_none(self):
        for name in NO_NAMES:
            with self.assertRaises(NoSize, msg=repr(name)):
                Size(name, ZERO, ZERO)
            with self.assertRaises(NoSize, msg=repr(name)):
                Size("a", ZERO, ZERO, [("b", ZERO, "big"), (name, ZERO, "big")])

    def test_least_above_most(self):
        for least, most in [((1, 1), (0, 1)), ((1, 2), (1, 3)), ((-1, 3), (-1, 2)), ((1, NINES - 1), (1, NINES))]:
            with self.assertRaises(NoSize):
                Size("a", least, most)
            self.assertEqual(Size("a", most, least).least, most)

    def test_bounds_and_allowances_that_are_no_numbers(self):
        for value in [(2, 4), (1, 0), (1, -1), (True, 1)]:
            with self.assertRaises(NoSize):
                Size("a", value, (9, 1))
            with self.assertRaises(NoSize):
                Size("a", (-9, 1), value)
            with self.assertRaises(NoSize):
                Size("a", ZERO, ZERO, [("b", value, "big")])

    def test_allowance_below_0(self):
        for allowance in [(-1, 1), (-1, NINES)]:
            for way in WAYS:
                with self.assertRaises(NoSize):
                    Size("a", ZERO, (1, 1), [("b", allowance, way)])

    def test_widths_and_allowances_of_0(self):
        for way in WAYS:
            size = Size("a", (1, 2), (1, 2), [("b", ZERO, way)])
            self.assertEqual(size.room("b", (1, 2)), ZERO)

    def test_way_that_is_none(self):
        for way in ["", "Big", "large", "fixed ", "fix", None]:
            with self.assertRaises(NoSize):
                Size("a", ZERO, (1, 1), [("b", ZERO, way)])

    def test_two_names_alike(self):
        with self.assertRaises(NoSize):
            Size("a", ZERO, (1, 1), [("a", ZERO, "big")])
        with self.assertRaises(NoSize):
            Size("a", ZERO, (1, 1), [("b", ZERO, "big"), ("c", ZERO, "big"), ("b", (1, 1), "small")])

    def test_lists_are_the_askers_own(self):
        shifts = [("f", (1, 2), "fixed")]
        size = Size("a", ZERO, (1, 1), shifts)
        shifts.append(("g", (1, 2), "fixed"))
        size.names().append("h")
        self.assertEqual(size.shifts, (("f", (1, 2), "fixed"),))
        self.assertEqual(size.names(), ["a", "f"])
        self.assertEqual(shifts, [("f", (1, 2), "fixed"), ("g", (1, 2), "fixed")])


class StockTest(unittest.TestCase):
    def test_sizes_and_names_in_order(self):
        sizes = [Size("z", ZERO, (1, 1)), wide_size(), Size("a", ZERO, (2, 1), [("y", (1, 1), "big")])]
        for handed in (sizes, tuple(sizes)):
            stock = Stock(handed)
            self.assertEqual(fields(stock.sizes()), fields(sizes))
            self.assertEqual(stock.names(), ["z", "wide", "f", "b", "s", "a", "y"])
            self.assertIs(type(stock.sizes()), list)
            self.assertIs(type(stock.names()), list)

    def test_empty(self):
        for stock in (Stock([]), Stock(())):
            self.assertEqual((stock.sizes(), stock.names()), ([], []))

    def test_a_name_that_comes_twice(self):
        plain, shifted = Size("a", ZERO, ZERO), Size("b", ZERO, ZERO, [("a", ZERO, "big")])
        other = Size("c", ZERO, ZERO, [("a", ZERO, "big")])
        for sizes in [[plain, plain], [plain, shifted], [shifted, plain], [shifted, other], (plain, other, shifted)]:
            with self.assertRaises(NoSize):
                Stock(sizes)

    def test_lists_and_sizes_are_copied(self):
        sizes = [wide_size()]
        stock = Stock(sizes)
        before = fields(stock.sizes())
        sizes[0].least = (2, 1)
        sizes.append(Size("new", ZERO, ZERO))
        stock.sizes()[0].most = (9, 1)
        stock.sizes().pop()
        stock.names().pop()
        self.assertEqual(fields(stock.sizes()), before)
        self.assertEqual(stock.names(), ["wide", "f", "b", "s"])

    def test_with_bounds(self):
        stock = Stock([Size("a", ZERO, (1, 1)), wide_size()])
        before = fields(stock.sizes())
        told = stock.with_bounds("wide", (-1, 2), (5, 1))
        self.assertEqual(fields(told.sizes()), [before[0], ("wide", (-1, 2), (5, 1), before[1][3])])
        self.assertEqual(fields(stock.sizes()), before)
        self.assertEqual(fields(stock.with_bounds("a", (7, 1), (7, 1)).sizes())[0], ("a", (7, 1), (7, 1), ()))

    def test_with_bounds_refused(self):
        stock = Stock([Size("a", ZERO, (1, 1)), wide_size()])
        for name in ["b", "f", "none", "", None]:
            with self.assertRaises(NoSize):
                stock.with_bounds(name, ZERO, (1, 1))
        with self.assertRaises(NoSize):
            stock.with_bounds("a", (1, 1), ZERO)
        with self.assertRaises(NoSize):
            Stock([]).with_bounds("a", ZERO, ZERO)
        self.assertEqual(stock.sizes()[0].most, (1, 1))

    def test_called(self):
        stock = Stock([Size("a", ZERO, (1, 1)), wide_size()])
        told = stock.called("lid")
        self.assertEqual(told.names(), ["lid.a", "lid.wide", "lid.f", "lid.b", "lid.s"])
        self.assertEqual(told.sizes()[1].shifts[1], ("lid.b", (1, 4), "big"))
        self.assertEqual([(size.least, size.most) for size in told.sizes()], [((0, 1), (1, 1)), ((1, 1), (3, 1))])
        self.assertEqual(told.called("x").names()[0], "x.lid.a")
        self.assertEqual(stock.names(), ["a", "wide", "f", "b", "s"])
        self.assertEqual(Stock([]).called("lid").names(), [])

    def test_and_all(self):
        one, other = Stock([Size("z", ZERO, (1, 1))]), Stock([wide_size(), Size("a", ZERO, (2, 1))])
        told = one.and_all(other)
        self.assertEqual(fields(told.sizes()), fields(one.sizes() + other.sizes()))
        self.assertEqual(one.names(), ["z"])
        self.assertEqual(other.names(), ["wide", "f", "b", "s", "a"])
        self.assertEqual(other.and_all(one).names(), ["wide", "f", "b", "s", "a", "z"])
        self.assertEqual(one.and_all(Stock([])).names(), ["z"])
        with self.assertRaises(NoSize):
            one.and_all(one)
        with self.assertRaises(NoSize):
            other.and_all(Stock([Size("s", ZERO, ZERO)]))


class KeepsTest(unittest.TestCase):
    def good(self):
        return {"wide": (2, 1), "f": (1, 2), "b": (5, 4), "s": (-9, 8), "a": ZERO}

    def keeps(self, changes):
        making = self.good()
        making.update(changes)
        return Stock([wide_size(), Size("a", ZERO, (1, 1))]).keeps(making)

    def test_just_the_names(self):
        stock = Stock([wide_size(), Size("a", ZERO, (1, 1))])
        self.assertIs(stock.keeps(self.good()), True)
        self.assertIs(stock.keeps(dict(reversed(list(self.good().items())))), True)
        self.assertIs(self.keeps({"more": ZERO}), False)
        for name in self.good():
            fewer = self.good()
            fewer.pop(name)
            self.assertIs(stock.keeps(fewer), False)
            fewer[name + "x"] = self.good()[name]
            self.assertIs(stock.keeps(fewer), False)

    def test_without_names(self):
        self.assertIs(Stock([]).keeps({}), True)
        self.assertIs(Stock([]).keeps({"a": ZERO}), False)

    def test_each_size_at_its_ends_and_beyond(self):
        calm = {"f": ZERO, "b": ZERO, "s": ZERO}
        for value, told in [((1, 1), True), ((3, 1), True), ((99, 100), False), ((301, 100), False), ((-2, 1), False)]:
            self.assertIs(self.keeps(dict(calm, wide=value)), told, value)
        for value, told in [((0, 1), True), ((1, 1), True), ((-1, NINES), False), ((NINES + 1, NINES), False)]:
            self.assertIs(self.keeps({"a": value}), told, value)

    def test_each_shift_at_its_ends_and_beyond(self):
        size = wide_size()
        for value in ((1, 1), (2, 1), (5, 3), (3, 1)):
            for shift in "fbs":
                room = room_of(size, shift, Fraction(*value))
                calm = {"f": ZERO, "b": ZERO, "s": ZERO, "wide": value}
                for at, told in [(room, True), (-room, True), (room + Fraction(1, 99), False),
                                 (-room - Fraction(1, 99), False)]:
                    self.assertIs(self.keeps(dict(calm, **{shift: number(at)})), told, (value, shift, at))

    def test_room_by_the_made_size(self):
        self.assertIs(self.keeps({"wide": (3, 1), "s": ZERO, "b": (9, 4)}), True)
        self.assertIs(self.keeps({"wide": (1, 1), "s": ZERO, "b": (9, 4)}), False)
        self.assertIs(self.keeps({"wide": (1, 1), "b": ZERO, "s": (17, 8)}), True)
        self.assertIs(self.keeps({"wide": (3, 1), "b": ZERO, "s": (17, 8)}), False)

    def test_every_corner_and_every_making_between(self):
        chance = random.Random(7)
        for k in range(40):
            stock = random_stock(chance)
            for making in stock.corners() + [random_making(chance, stock)]:
                kept = copy.deepcopy(making)
                self.assertIs(stock.keeps(making), True)
                self.assertEqual(making, kept)


class CornersTest(unittest.TestCase):
    def test_without_sizes(self):
        self.assertEqual(Stock([]).corners(), [{}])

    def test_written_out(self):
        stock = Stock([Size("z", ZERO, (1, 1), [("b", ZERO, "big")]), Size("a", (-1, 1), (1, 2))])
        self.assertEqual(stock.corners(), [
            {"z": (0, 1), "b": (0, 1), "a": (-1, 1)}, {"z": (0, 1), "b": (0, 1), "a": (1, 2)},
            {"z": (1, 1), "b": (-1, 1), "a": (-1, 1)}, {"z": (1, 1), "b": (-1, 1), "a": (1, 2)},
            {"z": (1, 1), "b": (1, 1), "a": (-1, 1)}, {"z": (1, 1), "b": (1, 1), "a": (1, 2)},
        ])

    def test_sorted_as_numbers_not_as_tuples(self):
        self.assertEqual(Stock([Size("a", (3, 4), (1, 1))]).corners(), [{"a": (3, 4)}, {"a": (1, 1)}])
        stock = Stock([Size("a", ZERO, ZERO, [("f", (1, 2), "fixed")])])
        self.assertEqual(stock.corners(), [{"a": ZERO, "f": (-1, 2)}, {"a": ZERO, "f": (1, 2)}])

    def test_each_once_with_widths_and_allowances_of_0(self):
        for way in WAYS:
            stock = Stock([Size("a", (1, 2), (1, 2), [("f", ZERO, way)])])
            self.assertEqual(stock.corners(), [{"a": (1, 2), "f": ZERO}])

    def test_as_by_trying_all(self):
        chance = random.Random(8)
        for k in range(80):
            stock = random_stock(chance)
            self.assertEqual(stock.corners(), corners_of(stock))

    def test_twelve_names(self):
        sizes = [Size(name, ZERO, (1, 1), [(name + "s", (1, 1), way)]) for name, way in zip("fedcba", WAYS * 2)]
        stock = Stock(sizes)
        self.assertEqual(len(stock.names()), 12)
        self.assertEqual(stock.corners(), corners_of(stock))
        self.assertEqual(len(stock.corners()), 4096)

    def test_told_anew(self):
        stock = Stock([Size("a", ZERO, (1, 1))])
        stock.corners()[0]["a"] = (7, 1)
        stock.corners().pop()
        self.assertEqual(stock.corners(), [{"a": ZERO}, {"a": (1, 1)}])
        empty = Stock([])
        empty.corners()[0]["a"] = ZERO
        self.assertEqual(empty.corners(), [{}])


class LeastAndMostTest(unittest.TestCase):
    def test_written_out(self):
        stock = Stock([wide_size(), Size("a", (-1, 1), (1, 1))])
        a = sum_of((1, 2), [("wide", (1, 1)), ("b", (-2, 1)), ("a", (-1, 3))])
        self.assertEqual(stock.lowest_at(a), {"wide": (3, 1), "f": ZERO, "b": (9, 4), "s": ZERO, "a": (1, 1)})
        self.assertEqual(stock.lowest(a), (-4, 3))
        self.assertEqual(stock.highest_at(a), {"wide": (3, 1), "f": ZERO, "b": (-9, 4), "s": ZERO, "a": (-1, 1)})
        self.assertEqual(stock.highest(a), (25, 3))

    def test_both_ends_alike(self):
        stock = Stock([Size("a", (1, 1), (2, 1), [("b", ZERO, "big"), ("f", (1, 1), "fixed")]), Size("c", ZERO, (1, 1))])
        level = sum_of(ZERO, [("a", (1, 1)), ("b", (1, 1))])
        self.assertEqual(stock.lowest_at(level), {"a": (1, 1), "b": ZERO, "f": ZERO, "c": ZERO})
        level = sum_of(ZERO, [("a", (-1, 1)), ("b", (1, 1))])
        self.assertEqual(stock.highest_at(level), {"a": (1, 1), "b": ZERO, "f": ZERO, "c": ZERO})
        plain = sum_of((3, 1), [])
        for making in (stock.lowest_at(plain), stock.highest_at(plain)):
            self.assertEqual(making, {"a": (1, 1), "b": ZERO, "f": ZERO, "c": ZERO})
        self.assertEqual((stock.lowest(plain), stock.highest(plain)), ((3, 1), (3, 1)))

    def test_without_sizes(self):
        stock, plain = Stock([]), sum_of((3, 7), [])
        self.assertEqual((stock.lowest(plain), stock.highest(plain)), ((3, 7), (3, 7)))
        self.assertEqual((stock.lowest_at(plain), stock.highest_at(plain)), ({}, {}))

    def test_reached_at_corners(self):
        chance = random.Random(9)
        for k in range(150):
            stock = random_stock(chance)
            a = random_sum(chance, stock)
            values = [Fraction(*sum_at(a, corner)) for corner in corners_of(stock)]
            self.assertEqual(stock.lowest(a), number(min(values)))
            self.assertEqual(stock.highest(a), number(max(values)))
            value = Fraction(*sum_at(a, random_making(chance, stock)))
            self.assertTrue(min(values) <= value <= max(values))

    def test_makings_as_told(self):
        chance = random.Random(10)
        for k in range(300):
            stock = random_stock(chance, 8)
            a = random_sum(chance, stock)
            low, high = stock.lowest_at(a), stock.highest_at(a)
            self.assertEqual(low, lowest_at_of(stock, a))
            self.assertEqual(high, lowest_at_of(stock, sum_times(a, (-1, 1))))
            self.assertEqual((sum_at(a, low), sum_at(a, high)), (stock.lowest(a), stock.highest(a)))
            self.assertTrue(stock.keeps(low) and stock.keeps(high))

    def test_eighteen_figures(self):
        stock = Stock([Size("a", (-NINES, 1), (NINES, NINES - 1), [("b", (1, NINES), "big")])])
        a = sum_of((1, NINES), [("a", (NINES, 7)), ("b", (-NINES, 1))])
        values = [Fraction(*sum_at(a, corner)) for corner in corners_of(stock)]
        self.assertEqual((stock.lowest(a), stock.highest(a)), (number(min(values)), number(max(values))))

    def test_a_name_that_the_stock_lacks(self):
        for stock in [Stock([]), Stock([wide_size()])]:
            for ask in (stock.lowest, stock.highest, stock.lowest_at, stock.highest_at):
                with self.assertRaises(NoSum):
                    ask(sum_of(ZERO, [("none", (1, 1))]))
        with self.assertRaises(NoSum):
            Stock([wide_size()]).lowest(sum_of(ZERO, [("f", (1, 1)), ("x", (1, 1))]))

    def test_told_anew(self):
        stock, a = Stock([wide_size()]), sum_of(ZERO, [("wide", (1, 1))])
        before = stock.lowest_at(a)
        stock.lowest_at(a)["wide"] = (9, 1)
        stock.highest_at(a).clear()
        self.assertEqual(stock.lowest_at(a), before)
        self.assertEqual(stock.highest_at(a)["wide"], (3, 1))


if __name__ == "__main__":
    unittest.main()
