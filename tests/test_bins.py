import random
import unittest
from fractions import Fraction

from fitwhatever.assemblies import Assembly
from fitwhatever.bins import bin_bounds, bins_of, with_bins
from fitwhatever.errors import NoBins
from fitwhatever.parts import Part
from fitwhatever.stocks import Size
from fitwhatever.verdicts import verdict_of
from helpers import (
    HALF, ONE, ZERO, AssemblyTest, always_goes_together, boxed, moved, number, place, put_rows, random_assembly, shuffled,
    six_parts)

BOX, PIN = "box.wide", "pin.wide"
BAD_COUNTS = [0, -1, 31, 1000, True, False, None, "2", ONE, 2.0]


def bounds_by_hand(size, many, k):
    least, width = Fraction(*size.least), (Fraction(*size.most) - Fraction(*size.least)) / many
    return (number(least + width * k), number(least + width * (k + 1)))


def with_shift():
    """A pin with a size that has a shift, and with one that has none."""
    part = Part("pin", [Size("wide", (3, 1), (4, 1), [("off", ZERO, "fixed")]), Size("low", ZERO, ONE)])
    return Assembly([part] + boxed(3, 4).parts()[:1])


def shaft(least, most, play=1, factor=1):
    """A pin in a box from 4 to 6 that must have room, but not more than the play; the pin's width times a factor."""
    part = Part("pin", [Size("wide", number(least), number(most))])
    part.put_face("left", "x", None, place(0))
    part.put_face("right", "x", None, place(0, ("wide", factor)))
    part.put_face("far", "x", "right", place(play))
    box = boxed(3, 4).with_bounds(BOX, (4, 1), (6, 1)).parts()[0]
    return put_rows(Assembly([box, part]), boxed(3, 4).rows() + [
        ("lies", ("box", "left"), ("pin", "left")), ("ahead", ("box", "right"), ("pin", "far"))])


class BinsTest(AssemblyTest):
    def no_bins(self, *handed):
        self.refused(NoBins, *handed)


class BinBoundsTest(BinsTest):
    def test_by_hand(self):
        size = Size("wide", ONE, (4, 1))
        self.assertEqual([bin_bounds(size, 3, k) for k in range(3)],
                         [((1, 1), (2, 1)), ((2, 1), (3, 1)), ((3, 1), (4, 1))])
        self.assertEqual(bin_bounds(size, 1, 0), (ONE, (4, 1)))
        self.assertEqual(bin_bounds(size, 30, 0), (ONE, (11, 10)))
        self.assertEqual(bin_bounds(size, 30, 29), ((39, 10), (4, 1)))
        self.assertEqual(bin_bounds(Size("low", (-1, 2), (1, 3)), 2, 1), ((-1, 12), (1, 3)))

    def test_all_counts(self):
        for size in (Size("a", (-7, 3), (22, 7)), Size("b", (-3, 1), (-3, 1)), Size("c", ZERO, (1, 10 ** 18 - 1))):
            for many in range(1, 31):
                told = [bin_bounds(size, many, k) for k in range(many)]
                self.assertEqual(told, [bounds_by_hand(size, many, k) for k in range(many)])
                self.assertEqual((told[0][0], told[-1][1]), (size.least, size.most))
                self.assertEqual([one[1] for one in told[:-1]], [one[0] for one in told[1:]])

    def test_shifts_do_not_count(self):
        plain, shifted = Size("a", ONE, (3, 1)), Size("a", ONE, (3, 1), [("b", HALF, "big")])
        for k in range(4):
            self.assertEqual(bin_bounds(shifted, 4, k), bin_bounds(plain, 4, k))
        self.assertEqual((shifted.least, shifted.most, shifted.shifts), (ONE, (3, 1), (("b", HALF, "big"),)))

    def test_no_bins(self):
        size = Size("a", ONE, (3, 1))
        for many in BAD_COUNTS:
            self.no_bins(bin_bounds, size, many, 0)
        for many, k in [(1, 1), (1, -1), (30, 30), (30, -1), (5, 5), (5, 6), (5, True), (5, False), (5, None), (5, "1"),
                        (5, ONE), (5, 1.0)]:
            self.no_bins(bin_bounds, size, many, k)


class WithBinsTest(BinsTest):
    def bounds(self, assembly):
        return {size.name: (size.least, size.most) for size in assembly.stock().sizes()}

    def test_pairs(self):
        for many in (1, 2, 3, 7, 30):
            for k in {0, many // 2, many - 1}:
                for handed, partner in (((), k), ((False,), k), ((True,), many - 1 - k)):
                    assembly = boxed(3, "9/2")
                    sizes = {size.name: size for size in assembly.stock().sizes()}
                    told = self.ask(with_bins, assembly, BOX, PIN, many, k, *handed)
                    self.assertEqual(self.bounds(told), {BOX: bounds_by_hand(sizes[BOX], many, k),
                                                         PIN: bounds_by_hand(sizes[PIN], many, partner)})
                    self.assertEqual((told.rows(), told.gaps()), (assembly.rows(), assembly.gaps()))
        told = with_bins(boxed(3, 4), PIN, BOX, 4, 0, turned=True)
        self.assertEqual(self.bounds(told), {PIN: ((3, 1), (13, 4)), BOX: ((19, 4), (5, 1))})

    def test_a_new_assembly(self):
        assembly = boxed(3, 4)
        told = with_bins(assembly, BOX, PIN, 1, 0)
        told.ahead(("box", "left"), ("box", "right"))
        self.assertEqual((len(assembly.gaps()), len(told.gaps())), (2, 3))
        assembly.lies(("box", "left"), ("box", "left"))
        self.assertEqual((len(assembly.gaps()), len(told.gaps())), (4, 3))

    def test_of_one_part_and_of_no_width(self):
        part = Part("pin", [Size("wide", (3, 1), (3, 1)), Size("low", ZERO, ONE), Size("deep", ONE, (2, 1))])
        told = with_bins(Assembly([part]), "pin.low", "pin.wide", 5, 4)
        self.assertEqual(self.bounds(told), {"pin.wide": ((3, 1), (3, 1)), "pin.low": ((4, 5), ONE),
                                             "pin.deep": (ONE, (2, 1))})

    def test_no_bins(self):
        for many in BAD_COUNTS:
            self.no_bins(with_bins, boxed(3, 4), BOX, PIN, many, 0)
        for many, k in [(1, 1), (1, -1), (30, 30), (5, -1), (5, 5), (5, True), (5, None)]:
            self.no_bins(with_bins, boxed(3, 4), BOX, PIN, many, k)
            self.no_bins(with_bins, boxed(3, 4), BOX, PIN, many, k, True)

    def test_names(self):
        for one, other in bad_names():
            self.no_bins(with_bins, with_shift(), one, other, 2, 1)
            self.no_bins(with_bins, with_shift(), one, other, 2, 1, True)
        self.assertEqual(self.bounds(with_bins(with_shift(), "pin.low", BOX, 2, 1))["pin.low"], (HALF, ONE))


def bad_names():
    """Pairs of names in with_shift, of which one at least is none, has shifts, or both are the same."""
    yield ("pin.low", "pin.low")
    yield ("none", "none")
    for name in ("pin.wide", "pin.off", "wide", "low", "pin", "lid.wide", "none", "", None, 7, ("pin", "low")):
        yield (name, "pin.low")
        yield ("pin.low", name)


class BinsOfTest(BinsTest):
    def told(self, assembly, one, other, most, *handed):
        """The count told, each pair of it held by verdict_of, and one pair of each lesser count held against it."""
        many = self.ask(bins_of, assembly, one, other, most, *handed)
        self.assertIs(type(many), int)
        for count in range(1, many + 1):
            words = [verdict_of(with_bins(assembly, one, other, count, k, *handed))[0] for k in range(count)]
            self.assertIs(set(words) == {"always"}, count == many, count)
        return many

    def test_by_hand(self):
        # The box is from 4 to 6: with room from 0 to 1 a pin from 7/2 to 11/2 can be sorted, but one as wide as it can't.
        self.assertEqual(self.told(shaft("7/2", "11/2"), BOX, PIN, 30), 4)
        self.assertEqual(self.told(shaft("7/2", "11/2"), PIN, BOX, 4), 4)
        self.assertEqual(self.told(shaft("7/2", "11/2"), PIN, BOX, 4, False), 4)
        self.no_bins(bins_of, shaft("7/2", "11/2"), BOX, PIN, 3)
        self.no_bins(bins_of, shaft("7/2", "11/2"), BOX, PIN, 30, True)
        self.no_bins(bins_of, shaft(4, 6), BOX, PIN, 30)
        self.assertEqual(self.told(shaft("7/2", "11/2").with_bounds(BOX, (5, 1), (5, 1)).with_bounds(
            PIN, (4, 1), (5, 1)), BOX, PIN, 30), 1)

    def test_turned(self):
        # What is wide in the one must be low in the other: both together are from 3 to 4.
        part = Part("pin", [Size("wide", ONE, (3, 1)), Size("low", ONE, (3, 1))])
        for face, value in (("a", 0), ("b", "7/2"), ("c", "9/2")):
            part.put_face(face, "x", None, place(value))
        part.put_face("top", "x", None, place(0, ("wide", 1), ("low", 1)))
        assembly = put_rows(Assembly([part]), [("ahead", ("pin", "b"), ("pin", "top")),
                                               ("ahead", ("pin", "top"), ("pin", "c"))])
        self.assertEqual(self.told(assembly, "pin.wide", "pin.low", 30, True), 4)
        self.assertEqual(self.told(assembly, "pin.low", "pin.wide", 4, True), 4)
        self.no_bins(bins_of, assembly, "pin.low", "pin.wide", 3, True)
        self.no_bins(bins_of, assembly, "pin.low", "pin.wide", 30)
        self.no_bins(bins_of, assembly, "pin.low", "pin.wide", 30, False)

    def test_one_bin(self):
        for assembly in (boxed(3, 4), Assembly(boxed(3, 4).parts())):
            for most in (1, 2, 30):
                self.assertEqual(self.told(assembly, BOX, PIN, most), 1)
                self.assertEqual(self.told(assembly, BOX, PIN, most, True), 1)

    def test_thirty_bins(self):
        # Room from 0 to 1/15 more than a bin's width: two bins of each are 1/15 wide when there are thirty.
        for value, many in ((Fraction(1, 15), 30), (Fraction(2, 29), 29), (Fraction(1, 16), None)):
            part = Part("pin", [Size("wide", ZERO, (2, 1)), Size("low", ZERO, (2, 1))])
            part.put_face("low", "x", None, place(-value, ("wide", 1)))
            part.put_face("mid", "x", None, place(0, ("low", 1)))
            part.put_face("top", "x", None, place(value, ("wide", 1)))
            assembly = put_rows(Assembly([part]), [("ahead", ("pin", "low"), ("pin", "mid")),
                                                   ("ahead", ("pin", "mid"), ("pin", "top"))])
            if many is None:
                self.no_bins(bins_of, assembly, "pin.wide", "pin.low", 30)
                continue
            self.assertEqual(self.told(assembly, "pin.wide", "pin.low", 30), many)
            self.no_bins(bins_of, assembly, "pin.wide", "pin.low", many - 1)

    def test_no_width(self):
        assembly = boxed(5, 5)
        self.no_bins(bins_of, assembly, BOX, PIN, 30)
        # Bins of what is never narrower don't help.
        self.no_bins(bins_of, boxed(4, 4).with_bounds(BOX, (3, 1), (3, 1)), BOX, PIN, 30)
        self.assertEqual(self.told(boxed(4, 4).with_bounds(BOX, (4, 1), (4, 1)), BOX, PIN, 30), 1)

    def test_against_all_counts(self):
        chance = random.Random(110)
        found = []
        while len(found) < 120:
            assembly = random_assembly(chance, chance.choice(["x", "xy"]))
            names = [size.name for size in assembly.stock().sizes() if not size.shifts]
            if len(names) > 1:
                found.append(self.least_held(chance, assembly, *chance.sample(names, 2), chance.randrange(2) == 0))
        self.assertTrue(None in found and 1 in found)

    def test_pins_against_all_counts(self):
        chance = random.Random(111)
        found = []
        for k in range(80):
            factor = chance.choice([1, 1, -1])
            least = 4 - Fraction(chance.randrange(6), 4)
            ends = sorted([factor * least, factor * (least + Fraction(chance.randrange(5, 10), 4))])
            assembly = shaft(*ends, Fraction(chance.randrange(2, 9), 4), factor)
            found.append(self.least_held(chance, assembly, BOX, PIN, factor == -1))
        self.assertGreater(len([many for many in found if many is not None and many > 1]), 10)
        self.assertGreater(len(set(found)), 4)

    def least_held(self, chance, assembly, one, other, turned):
        """The least count up to a most, by trying all; what is told is held against it."""
        most = chance.randrange(1, 8)
        slow = self.least_count(assembly, one, other, most, turned)
        if slow is None:
            self.no_bins(bins_of, assembly, one, other, most, turned)
            return None
        for told in (assembly, moved(chance, assembly), shuffled(chance, assembly)):
            self.assertEqual(bins_of(told, one, other, most, turned), slow)
            self.assertEqual(bins_of(told, other, one, most, turned), slow)
        return slow

    def least_count(self, assembly, one, other, most, turned):
        sizes = {size.name: size for size in assembly.stock().sizes()}
        for many in range(1, most + 1):
            goes = True
            for k in range(many):
                first = bounds_by_hand(sizes[one], many, k)
                second = bounds_by_hand(sizes[other], many, many - 1 - k if turned else k)
                told = assembly.with_bounds(one, *first).with_bounds(other, *second)
                goes = goes and always_goes_together(told.gaps(), told.stock())
            if goes:
                return many
        return None

    def test_six_parts(self):
        whole = six_parts(5)
        parts = [Part(part.name, [Size("wide", ONE, (2, 1)), Size("off", ZERO, ONE)]) for part in whole.parts()]
        for part, own in zip(parts, whole.parts()):
            for face, axis, spot in own.faces():
                part.put_face(face, axis, None, spot)
        assembly = put_rows(Assembly(parts), whole.rows())
        self.assertEqual(self.told(assembly, "a.wide", "b.off", 30), 1)

    def test_no_bins(self):
        for most in BAD_COUNTS:
            self.no_bins(bins_of, boxed(3, 4), BOX, PIN, most)
            self.no_bins(bins_of, boxed(3, 4), BOX, PIN, most, True)
        for one, other in bad_names():
            self.no_bins(bins_of, with_shift(), one, other, 30)
            self.no_bins(bins_of, with_shift(), one, other, 30, True)
        self.assertEqual(self.told(with_shift(), "pin.low", BOX, 30), 1)
        self.no_bins(bins_of, boxed(6, 7), BOX, PIN, 30)


if __name__ == "__main__":
    unittest.main()
