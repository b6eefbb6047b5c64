import random
import unittest
from fractions import Fraction

from fitwhatever.assemblies import Assembly
from fitwhatever.errors import NoSize
from fitwhatever.measures import parted_by, to_measure
from fitwhatever.parts import Part
from fitwhatever.stocks import Size
from helpers import (
    HALF, ONE, ZERO, AssemblyTest, bar, boxed, goes_together, moved, place, put_rows, random_assembly, random_making,
    shuffled, six_parts, some_assembly)

BOX, PIN = "box.wide", "pin.wide"


def sizes_of(assembly):
    return [size.name for size in assembly.stock().sizes()]


def names_under(assembly, sizes):
    """The names of these sizes, and of their shifts."""
    return [name for size in assembly.stock().sizes() if size.name in sizes for name in size.names()]


def with_lid():
    """A pin in a box, and a lid with a size and a shift that lies on the box, so that nothing hangs on it."""
    lid = Part("lid", [Size("wide", ONE, (2, 1), [("off", HALF, "big")])])
    lid.put_face("low", "x", None, place(0, ("wide", 1), ("off", 1)))
    assembly = boxed(3, 6)
    return put_rows(Assembly([lid] + assembly.parts()), assembly.rows() + [("lies", ("lid", "low"), ("box", "right"))])


class MeasureTest(AssemblyTest):
    def parted(self, assembly, names):
        """Whether two makings part, held by the words of 23."""
        told = self.ask(parted_by, assembly, names)
        if told is None:
            return False
        self.assertEqual([type(told)] + [type(making) for making in told], [tuple, dict, dict])
        for making in told:
            self.assertIs(assembly.stock().keeps(making), True)
        for name in names_under(assembly, names):
            self.assertEqual(told[0][name], told[1][name])
        self.assertEqual([goes_together(assembly.gaps(), making) for making in told], [True, False])
        return True


class PartedByTest(MeasureTest):
    def test_by_hand(self):
        for names, parted in [([], True), ([BOX], True), ([PIN], True), ([BOX, PIN], False), ([PIN, BOX], False),
                              ([PIN, PIN], True), ([PIN, BOX, PIN, BOX], False), ([BOX, BOX, BOX], True)]:
            self.assertIs(self.parted(boxed(3, 6), names), parted, names)
        # What is made too wide is known by the pin alone where the box is of one width.
        one_wide = boxed(3, 6).with_bounds(BOX, (4, 1), (4, 1))
        for names, parted in [([], True), ([BOX], True), ([PIN], False)]:
            self.assertIs(self.parted(one_wide, names), parted, names)

    def test_always_and_never(self):
        for assembly in (boxed(3, 4), boxed(6, 7), Assembly([bar("box", 4, 5), bar("pin", 3, 6)])):
            for names in ([], [BOX], [PIN], [BOX, PIN]):
                self.assertIs(self.parted(assembly, names), False)
        self.assertIs(self.parted(Assembly([Part("lid", [])]), []), False)

    def test_shifts_are_measured_with_their_size(self):
        box = Part("box", [Size("wide", (4, 1), (5, 1), [("off", HALF, "fixed")])])
        box.put_face("left", "x", None, place(0, ("off", 1)))
        box.put_face("right", "x", None, place(0, ("wide", 1)))
        assembly = put_rows(Assembly([box, bar("pin", 4, 4)]), boxed(3, 4).rows())
        self.assertIs(self.parted(assembly, []), True)
        self.assertIs(self.parted(assembly, [PIN]), True)
        self.assertIs(self.parted(assembly, [BOX]), False)
        self.assertNotEqual(*[making["box.off"] for making in parted_by(assembly, [PIN])])

    def test_what_does_not_matter(self):
        for names, parted in [([BOX, PIN], False), (["lid.wide", PIN], True), (["lid.wide"], True), ([PIN], True)]:
            self.assertIs(self.parted(with_lid(), names), parted, names)

    def test_against_many_makings(self):
        chance = random.Random(130)
        told = []
        for k in range(150):
            maker = some_assembly if chance.randrange(3) else random_assembly
            assembly = maker(chance, chance.choice(["x", "xy"]))
            names = [name for name in sizes_of(assembly) if chance.randrange(2)]
            told.append(self.parted(assembly, names))
            self.assertIs(self.parted(shuffled(chance, assembly), names[::-1] * 2), told[-1])
            self.assertIs(self.parted(moved(chance, assembly), names), told[-1])
            if not told[-1]:
                self.hold_settled(chance, assembly, names)
        self.assertGreater(min(told.count(True), told.count(False)), 20)

    def hold_settled(self, chance, assembly, names):
        """No making parts from another one that is the same but for the names that aren't measured."""
        stock, gaps = assembly.stock(), assembly.gaps()
        measured = names_under(assembly, names)
        makings = [chance.choice(stock.corners()) for j in range(4)] + [random_making(chance, stock) for j in range(4)]
        for making in makings:
            others = [{**other, **{name: making[name] for name in measured}} for other in makings]
            self.assertEqual(len({goes_together(gaps, other) for other in others}), 1)

    def test_no_size(self):
        for name in ("lid.off", "lid", "wide", "off", "none", "", "lid.none", "lid.wide.", None, 7, ("lid", "wide")):
            for names in ([name], [name, PIN], [PIN, BOX, "lid.wide", name], [name, name]):
                self.refused(NoSize, parted_by, with_lid(), names)

    def test_told_anew(self):
        assembly = boxed(3, 6)
        kept = parted_by(assembly, [PIN])
        for making in parted_by(assembly, [PIN]):
            making.clear()
        self.assertEqual(parted_by(assembly, [PIN]), kept)
        told = parted_by(assembly, [])
        told[0].clear()
        self.assertTrue(told[1])

    def test_numbers_of_eighteen_figures(self):
        little = Fraction(1, 10 ** 18 - 1)
        self.assertIs(self.parted(boxed(3, 4 + little), [BOX]), True)
        self.assertIs(self.parted(boxed(3, 4), [BOX]), False)
        self.assertIs(self.parted(boxed(5, 6), [PIN]), True)
        self.assertIs(self.parted(boxed(5 + little, 6), [PIN]), False)


class ToMeasureTest(MeasureTest):
    def told(self, assembly):
        """The names told, which settle it, and without any one of them don't."""
        told = self.ask(to_measure, assembly)
        self.assertIs(type(told), list)
        self.assertEqual(told, [name for name in sizes_of(assembly) if name in told])
        self.assertIs(self.parted(assembly, told), False)
        for name in told:
            self.assertIs(self.parted(assembly, [other for other in told if other != name]), True)
        return told

    def by_leaving_out(self, assembly):
        """The names that stay when, from the last to the first, each is left out where the others settle without it."""
        stay = sizes_of(assembly)
        for name in sizes_of(assembly)[::-1]:
            if parted_by(assembly, [other for other in stay if other != name]) is None:
                stay.remove(name)
        return stay

    def test_by_hand(self):
        self.assertEqual(self.told(boxed(3, 6)), [BOX, PIN])
        self.assertEqual(self.told(boxed(3, 6).with_bounds(BOX, (4, 1), (4, 1))), [PIN])
        self.assertEqual(self.told(boxed(5, 5)), [BOX])
        self.assertEqual(self.told(with_lid()), [BOX, PIN])
        for assembly in (boxed(3, 4), boxed(6, 7), Assembly([bar("box", 4, 5)]), Assembly([Part("lid", [])])):
            self.assertEqual(self.told(assembly), [])

    def test_in_the_order_of_the_stock(self):
        first, second = boxed(3, 6).parts()
        turned = put_rows(Assembly([second, first]), boxed(3, 6).rows())
        self.assertEqual(self.told(turned), [PIN, BOX])

    def test_one_that_parts_only_amid(self):
        # By low from 0 to 10, and the pin from 4 to 6: all goes together just where low is not above the pin.
        part = Part("pin", [Size("low", ZERO, (10, 1)), Size("wide", (4, 1), (6, 1)), Size("deep", ZERO, ONE)])
        part.put_face("a", "x", None, place(0, ("low", 1)))
        part.put_face("b", "x", None, place(0, ("wide", 1)))
        assembly = put_rows(Assembly([part]), [("ahead", ("pin", "a"), ("pin", "b"))])
        self.assertEqual(self.told(assembly), ["pin.low", "pin.wide"])
        self.assertEqual(self.told(assembly.with_bounds("pin.low", (6, 1), (10, 1))), ["pin.low", "pin.wide"])
        self.assertEqual(self.told(assembly.with_bounds("pin.low", (7, 1), (10, 1))), [])
        self.assertEqual(self.told(assembly.with_bounds("pin.wide", (5, 1), (5, 1))), ["pin.low"])

    def test_against_leaving_out(self):
        chance = random.Random(131)
        lengths = []
        for k in range(120):
            maker = some_assembly if chance.randrange(4) else random_assembly
            assembly = maker(chance, chance.choice(["x", "xy"]))
            told = self.told(assembly)
            lengths.append(len(told))
            self.assertEqual(told, self.by_leaving_out(assembly))
            self.assertEqual(sorted(self.ask(to_measure, shuffled(chance, assembly))), sorted(told))
            self.assertEqual(self.ask(to_measure, moved(chance, assembly)), told)
        self.assertTrue({0, 1, 2} < set(lengths), lengths)

    def test_among_any_that_settle(self):
        chance = random.Random(132)
        for k in range(60):
            assembly = some_assembly(chance)
            told = to_measure(assembly)
            names = [name for name in sizes_of(assembly) if chance.randrange(3)]
            self.assertIs(parted_by(assembly, names) is None, set(told) <= set(names))

    def test_six_parts(self):
        for room in (2, 1, 0, -1):
            assembly = six_parts(room)
            told = to_measure(assembly)
            self.assertEqual(told, self.by_leaving_out(assembly))
            self.assertIsNone(parted_by(assembly, told))

    def test_told_anew(self):
        assembly = boxed(3, 6)
        to_measure(assembly).clear()
        self.assertEqual(to_measure(assembly), [BOX, PIN])


if __name__ == "__main__":
    unittest.main()
