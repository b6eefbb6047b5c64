import itertools
import random
import unittest
from fractions import Fraction

from fitwhatever.assemblies import Assembly
from fitwhatever.errors import NoMaking, NoPart, TooMany
from fitwhatever.gauges import gauge_of, goes_in, is_good, parting_of
from fitwhatever.parts import Part
from fitwhatever.places import least_places
from fitwhatever.stocks import Size, Stock
from helpers import (
    HALF, ONE, WAYS, ZERO, AssemblyTest, bar, boxed, chain_value, chains_by_nodes, goes_together, moved, number, place,
    put_rows, random_assembly, random_making, shuffled, six_parts, some_assembly)


def stocks_of(assembly, part):
    """The stock of a part, and that of all others, by the names' words."""
    sizes = assembly.stock().sizes()
    return (Stock([size for size in sizes if size.name.split(".")[0] == part]),
            Stock([size for size in sizes if size.name.split(".")[0] != part]))


def good_by_corners(assembly, part, made):
    """Whether made is good: each chain has its least at a corner of the others' stock."""
    return all(goes_together(assembly.gaps(), {**made, **piece}) for piece in stocks_of(assembly, part)[1].corners())


def sorted_pins(many, wide=True):
    """A pin in a box from 1 to 2, and so many sizes of a third part, the last one of no width where told."""
    sizes = [Size(chr(ord("a") + k), ZERO, ONE) for k in range(many)]
    if not wide:
        sizes.append(Size("z", ONE, ONE))
    rack = Part("rack", sizes)
    rack.put_face("low", "x", None, place(0))
    rack.put_face("top", "x", None, place(1, *[(size.name, Fraction(1, 2)) for size in sizes]))
    return put_rows(Assembly([bar("pin", 0, 9), rack]), [
        ("within", ("pin", "left"), ("pin", "right"), ("rack", "low"), ("rack", "top"))])


def two_sided():
    """A pin from 0 to 10 that must be from low's value on, and not above high's; low from 1 to 3, high from 7 to 9."""
    pin = bar("pin", 0, 10)
    rack = Part("rack", [Size("low", ONE, (3, 1)), Size("high", (7, 1), (9, 1))])
    rack.put_face("zero", "x", None, place(0))
    rack.put_face("least", "x", None, place(0, ("low", 1)))
    rack.put_face("most", "x", None, place(0, ("high", 1)))
    return put_rows(Assembly([pin, rack]), [
        ("lies", ("pin", "left"), ("rack", "zero")), ("ahead", ("rack", "least"), ("pin", "right")),
        ("ahead", ("pin", "right"), ("rack", "most"))])


def pin(value):
    return {"pin.wide": number(value)}


def rack(low, high):
    return {"rack.low": number(low), "rack.high": number(high)}


class GaugeTest(AssemblyTest):
    def parting(self, assembly, part, piece):
        """What parting_of tells; a made is held by the words of 22."""
        made = self.ask(parting_of, assembly, part, piece)
        if made is not None:
            self.assertIs(type(made), dict)
            self.assertIs(stocks_of(assembly, part)[0].keeps(made), True)
            self.assertTrue(goes_together(assembly.gaps(), {**made, **piece}))
            self.assertFalse(good_by_corners(assembly, part, made))
            self.assertIs(goes_in(assembly, part, made, piece), True)
            self.assertIs(is_good(assembly, part, made), False)
        return made


class GoodTest(GaugeTest):
    def test_by_hand(self):
        for value, good in [(3, True), (4, True), ("401/100", False), (5, False), (6, False)]:
            self.assertIs(self.ask(is_good, boxed(3, 6), "pin", pin(value)), good)
        for value, good in [(4, False), (5, False)]:
            self.assertIs(self.ask(is_good, boxed(3, 6), "box", {"box.wide": number(value)}), good)
        self.assertIs(self.ask(is_good, boxed(3, 5), "box", {"box.wide": (5, 1)}), True)
        for value, good in [(0, False), ("299/100", False), (3, True), (5, True), (7, True), ("701/100", False)]:
            self.assertIs(self.ask(is_good, two_sided(), "pin", pin(value)), good)

    def test_against_all_corners(self):
        chance = random.Random(120)
        told = []
        for k in range(250):
            assembly = random_assembly(chance, chance.choice(["x", "xy"]))
            part = chance.choice(assembly.parts()).name
            made = random_making(chance, stocks_of(assembly, part)[0])
            told.append(self.ask(is_good, assembly, part, made))
            self.assertIs(told[-1], good_by_corners(assembly, part, made))
            self.assertIs(is_good(shuffled(chance, assembly), part, made), told[-1])
            self.assertIs(is_good(moved(chance, assembly), part, made), told[-1])
        self.assertGreater(min(told.count(True), told.count(False)), 40)

    def test_alone_and_without_sizes(self):
        assembly = put_rows(Assembly([bar("box", -1, 1)]), [("ahead", ("box", "left"), ("box", "right"))])
        self.assertIs(self.ask(is_good, assembly, "box", {"box.wide": ZERO}), True)
        self.assertIs(self.ask(is_good, assembly, "box", {"box.wide": (-1, 9)}), False)
        self.assertIs(self.ask(is_good, Assembly([Part("lid", [])]), "lid", {}), True)
        lid = Part("lid", [])
        lid.put_face("a", "x", None, place(0))
        lid.put_face("b", "x", None, place(2))
        for least, good in [(2, True), ("19/10", False)]:
            whole = put_rows(Assembly([lid, bar("box", least, 5)]), [
                ("within", ("lid", "a"), ("lid", "b"), ("box", "left"), ("box", "right"))])
            self.assertIs(self.ask(is_good, whole, "lid", {}), good)

    def test_refused(self):
        for part in ("none", "", "pin.wide", None, 7, "wide", ("pin",)):
            for made in (pin(3), pin(9), {}):
                self.refused(NoPart, is_good, boxed(3, 6), part, made)
        for made in ({}, pin(7), pin("299/100"), {**pin(3), "box.wide": (4, 1)}, {"box.wide": (4, 1)}, {"wide": (3, 1)}):
            self.refused(NoMaking, is_good, boxed(3, 6), "pin", made)


class GoesInTest(GaugeTest):
    def test_by_hand(self):
        for value, box, goes in [(3, 4, True), (4, 4, True), ("401/100", 4, False), (5, 5, True), (6, 5, False)]:
            self.assertIs(self.ask(goes_in, boxed(3, 6), "pin", pin(value), {"box.wide": number(box)}), goes)
            self.assertIs(self.ask(goes_in, boxed(3, 6), "box", {"box.wide": number(box)}, pin(value)), goes)
        for value, goes in [("199/100", False), (2, True), (8, True), ("801/100", False)]:
            self.assertIs(self.ask(goes_in, two_sided(), "pin", pin(value), rack(2, 8)), goes)

    def test_against_slow_searches(self):
        chance = random.Random(121)
        told = []
        for k in range(250):
            assembly = random_assembly(chance, chance.choice(["x", "xy"]))
            part = chance.choice(assembly.parts()).name
            made, piece = [random_making(chance, stock) for stock in stocks_of(assembly, part)]
            told.append(self.ask(goes_in, assembly, part, made, piece))
            self.assertIs(told[-1], goes_together(assembly.gaps(), {**made, **piece}))
            self.assertIs(goes_in(shuffled(chance, assembly), part, made, piece), told[-1])
            self.assertIs(goes_in(moved(chance, assembly), part, made, piece), told[-1])
            if told[-1]:
                least_places(assembly.gaps(), {**made, **piece})
        self.assertGreater(min(told.count(True), told.count(False)), 40)

    def test_alone(self):
        assembly = put_rows(Assembly([bar("box", -1, 1)]), [("ahead", ("box", "left"), ("box", "right"))])
        self.assertIs(self.ask(goes_in, assembly, "box", {"box.wide": ZERO}, {}), True)
        self.assertIs(self.ask(goes_in, assembly, "box", {"box.wide": (-1, 9)}, {}), False)

    def test_refused(self):
        box = {"box.wide": (4, 1)}
        for part in ("none", "", "box.wide", None):
            for made, piece in [(pin(3), box), (pin(9), box), ({}, {})]:
                self.refused(NoPart, goes_in, boxed(3, 6), part, made, piece)
        for made, piece in [(pin(7), box), (pin(3), {"box.wide": (6, 1)}), (box, pin(3)), ({}, box), (pin(3), {}),
                            ({**pin(3), **box}, {}), (pin(3), {**pin(3), **box}), (pin(7), {"box.wide": (6, 1)})]:
            self.refused(NoMaking, goes_in, boxed(3, 6), "pin", made, piece)


class PartingTest(GaugeTest):
    def test_by_hand(self):
        self.assertIsNone(self.parting(boxed(3, 6), "pin", {"box.wide": (4, 1)}))
        made = self.parting(boxed(3, 6), "pin", {"box.wide": (401, 100)})
        self.assertTrue(4 < Fraction(*made["pin.wide"]) <= Fraction(401, 100))
        self.assertIsNotNone(self.parting(boxed(3, 6), "pin", {"box.wide": (5, 1)}))
        # Nothing that is made goes in, and nothing is good.
        self.assertIsNone(self.parting(boxed(6, 7), "pin", {"box.wide": (5, 1)}))
        # All that is made goes in, and all is good.
        self.assertIsNone(self.parting(boxed(3, 4), "pin", {"box.wide": (5, 1)}))
        # Something goes in this one, but nothing is good.
        self.assertIsNotNone(self.parting(boxed(3, 6), "box", pin(3)))
        self.assertIsNone(self.parting(boxed(3, 6), "box", pin(6)))

    def test_amid_its_bounds(self):
        # At its own corners, 0 and 10, the pin goes in no piece at all.
        for low, high, parts in [(3, 7, False), (3, 9, True), (1, 7, True), ("299/100", 7, True), (3, "701/100", True)]:
            made = self.parting(two_sided(), "pin", rack(low, high))
            self.assertIs(made is not None, parts, (low, high))
            if parts:
                self.assertTrue(0 < Fraction(*made["pin.wide"]) < 10)
                for corner in stocks_of(two_sided(), "pin")[0].corners():
                    self.assertIs(goes_in(two_sided(), "pin", corner, rack(low, high)), False)

    def test_one_name_exactly(self):
        """A part of one size goes in, and is good, from one value to another one: all that matters lies at the ends
        of these, and amid two of them."""
        chance = random.Random(122)
        told = []
        while len(told) < 80:
            assembly = some_assembly(chance, chance.choice(["x", "xy"]))
            alone = [part.name for part in assembly.parts() if len(part.stock().names()) == 1]
            if not alone:
                continue
            part = chance.choice(alone)
            own, others = stocks_of(assembly, part)
            piece = random_making(chance, others) if chance.randrange(2) else chance.choice(others.corners())
            told.append(self.parting(assembly, part, piece) is not None)
            parts = [made for made in self.values_that_matter(assembly, own, others, piece)
                     if goes_together(assembly.gaps(), {**made, **piece}) and not good_by_corners(assembly, part, made)]
            self.assertIs(told[-1], bool(parts))
        self.assertGreater(min(told.count(True), told.count(False)), 9)

    def values_that_matter(self, assembly, own, others, piece):
        size = own.sizes()[0]
        least, most = Fraction(*size.least), Fraction(*size.most)
        values = {least, most}
        for chain, other in itertools.product(chains_by_nodes(assembly.gaps()), others.corners() + [piece]):
            low, high = [chain_value(assembly.gaps(), chain, {**other, size.name: number(end)}) for end in (0, 1)]
            if high != low and least <= -low / (high - low) <= most:
                values.add(-low / (high - low))
        values = sorted(values)
        values += [(one + other) / 2 for one, other in zip(values, values[1:])]
        return [{size.name: number(value)} for value in values]

    def test_none_against_many_makings(self):
        chance = random.Random(123)
        told = []
        for k in range(80):
            assembly = some_assembly(chance, chance.choice(["x", "xy"]))
            part = chance.choice(assembly.parts()).name
            own, others = stocks_of(assembly, part)
            piece = random_making(chance, others)
            told.append(self.parting(assembly, part, piece) is None)
            self.assertIs(self.parting(shuffled(chance, assembly), part, piece) is None, told[-1])
            self.assertIs(self.parting(moved(chance, assembly), part, piece) is None, told[-1])
            if told[-1]:
                for made in own.corners() + [random_making(chance, own) for j in range(6)]:
                    goes = goes_together(assembly.gaps(), {**made, **piece})
                    self.assertFalse(goes and not good_by_corners(assembly, part, made))
        self.assertGreater(min(told.count(True), told.count(False)), 9)

    def test_refused(self):
        for part in ("none", "", "box.wide", None):
            for piece in ({"box.wide": (4, 1)}, {}, {"box.wide": (9, 1)}):
                self.refused(NoPart, parting_of, boxed(3, 6), part, piece)
        for piece in ({}, {"box.wide": (6, 1)}, pin(3), {**pin(3), "box.wide": (4, 1)}, {"box.wide": (39, 10)}):
            self.refused(NoMaking, parting_of, boxed(3, 6), "pin", piece)

    def test_told_anew(self):
        assembly = boxed(3, 6)
        kept = parting_of(assembly, "pin", {"box.wide": (5, 1)})
        parting_of(assembly, "pin", {"box.wide": (5, 1)}).clear()
        self.assertEqual(parting_of(assembly, "pin", {"box.wide": (5, 1)}), kept)


class GaugeOfTest(GaugeTest):
    def gauge(self, assembly, part):
        """What gauge_of tells, held against each corner of the others' stock, one by one."""
        told = self.ask(gauge_of, assembly, part)
        for corner in stocks_of(assembly, part)[1].corners():
            if corner == told:
                self.assertIsNone(parting_of(assembly, part, corner))
                return told
            self.assertIsNotNone(self.parting(assembly, part, corner))
        self.assertIsNone(told)
        return told

    def test_by_hand(self):
        self.assertEqual(self.gauge(boxed(3, 6), "pin"), {"box.wide": (4, 1)})
        self.assertEqual(self.gauge(boxed(3, 6), "box"), pin(6))
        self.assertEqual(self.gauge(two_sided(), "pin"), rack(3, 7))
        # Where all or nothing goes together, the first corner is one.
        self.assertEqual(self.gauge(boxed(3, 4), "box"), pin(3))
        self.assertEqual(self.gauge(boxed(6, 7), "box"), pin(6))
        self.assertEqual(self.gauge(Assembly(two_sided().parts()), "pin"), rack(1, 7))

    def test_none(self):
        # The piece must be low for the one face and high for the other.
        part = bar("pin", 0, 10)
        rack_part = Part("rack", [Size("off", ZERO, (3, 1))])
        for face, value in (("zero", 0), ("least", 2), ("most", 6)):
            rack_part.put_face(face, "x", None, place(value, *([("off", 1)] if face != "zero" else [])))
        assembly = put_rows(Assembly([part, rack_part]), [
            ("lies", ("pin", "left"), ("rack", "zero")), ("ahead", ("rack", "least"), ("pin", "right")),
            ("ahead", ("pin", "right"), ("rack", "most"))])
        self.assertIsNone(self.gauge(assembly, "pin"))
        # With less on one side alone, there is one again.
        one_sided = put_rows(Assembly(assembly.parts()), assembly.rows()[:2])
        self.assertEqual(self.gauge(one_sided, "pin"), {"rack.off": (3, 1)})

    def test_alone_and_without_sizes(self):
        assembly = put_rows(Assembly([bar("box", -1, 1)]), [("ahead", ("box", "left"), ("box", "right"))])
        self.assertEqual(self.gauge(assembly, "box"), {})
        self.assertEqual(self.gauge(Assembly([Part("lid", [])]), "lid"), {})
        lid = Part("lid", [])
        lid.put_face("a", "x", None, place(0))
        lid.put_face("b", "x", None, place(2))
        for least, gauge in [(2, 2), (1, 1), ("3/2", "3/2")]:
            whole = put_rows(Assembly([lid, bar("box", least, 5)]), [
                ("within", ("lid", "a"), ("lid", "b"), ("box", "left"), ("box", "right"))])
            self.assertEqual(self.gauge(whole, "lid"), {"box.wide": number(gauge)})
            self.assertEqual(self.gauge(whole, "box"), {})
        # By the lid all always goes together, or not: so each piece by which it does parts, but where it always does.
        never_first = put_rows(Assembly([lid, bar("box", -5, 1)]), [("ahead", ("box", "right"), ("box", "left"))])
        self.assertEqual(self.gauge(never_first, "lid"), {"box.wide": ONE})

    def test_shifts(self):
        for way, value in (("fixed", "1/2"), ("big", "1/2"), ("small", "3/2")):
            box = Part("box", [Size("wide", (4, 1), (5, 1), [("off", HALF, way)])])
            box.put_face("left", "x", None, place(0, ("off", 1)))
            box.put_face("right", "x", None, place(0, ("wide", 1)))
            assembly = put_rows(Assembly([box, bar("pin", 0, 6)]), boxed(3, 4).rows())
            self.assertEqual(self.gauge(assembly, "pin"), {"box.wide": (4, 1), "box.off": number(value)})
            self.assertIs(is_good(assembly, "pin", pin(4 - Fraction(value))), True)
            self.assertIs(is_good(assembly, "pin", pin(4 - Fraction(value) + Fraction(1, 99))), False)

    def test_against_all_corners(self):
        chance = random.Random(124)
        told, later = [], 0
        for k in range(80):
            maker = some_assembly if chance.randrange(4) else random_assembly
            assembly = maker(chance, chance.choice(["x", "xy"]))
            part = chance.choice(assembly.parts()).name
            told.append(self.gauge(assembly, part))
            self.assertEqual(gauge_of(moved(chance, assembly), part), told[-1])
            # Parts in another order have another order of corners, but a gauge among them just as well.
            self.assertIs(self.gauge(shuffled(chance, assembly), part) is None, told[-1] is None)
            if told[-1] is not None:
                for made in stocks_of(assembly, part)[0].corners():
                    goes = goes_together(assembly.gaps(), {**made, **told[-1]})
                    self.assertIs(goes, good_by_corners(assembly, part, made))
                later += told[-1] != stocks_of(assembly, part)[1].corners()[0]
        self.assertGreater(later, 9)

    def test_two_sides_by_chance(self):
        chance = random.Random(125)
        told = []
        for k in range(60):
            shifts = [("off", HALF, chance.choice(WAYS))] if chance.randrange(2) else []
            rack_part = Part("rack", [Size("low", ZERO, (2, 1), shifts), Size("high", ZERO, ONE)])
            rack_part.put_face("zero", "x", None, place(0))
            for face, value in (("least", 3), ("most", 7)):
                pairs = [(name, chance.choice([-1, 0, 1])) for name in rack_part.stock().names()]
                rack_part.put_face(face, "x", None, place(value, *pairs))
            assembly = put_rows(Assembly([bar("pin", 0, 10), rack_part]), two_sided().rows())
            told.append(self.gauge(assembly, "pin"))
            self.assertEqual(gauge_of(moved(chance, assembly), "pin"), told[-1])
        self.assertGreater(min(told.count(None), len(told) - told.count(None)), 9)

    def test_just_1024_corners(self):
        for assembly in (sorted_pins(10), sorted_pins(10, False)):
            rack_stock = stocks_of(assembly, "pin")[1]
            self.assertEqual(len(rack_stock.corners()), 1024)
            self.assertEqual(self.ask(gauge_of, assembly, "pin"), rack_stock.corners()[0])
        self.refused(TooMany, gauge_of, sorted_pins(11), "pin")
        self.assertEqual(self.ask(gauge_of, sorted_pins(11), "rack"), pin(9))

    def test_the_last_of_1024_corners(self):
        assembly = sorted_pins(10)
        pin_part, rack_part = assembly.parts()
        turned = put_rows(Assembly([pin_part, rack_part]), [
            ("lies", ("pin", "left"), ("rack", "low")), ("ahead", ("rack", "top"), ("pin", "right"))])
        self.assertEqual(gauge_of(turned, "pin"), stocks_of(turned, "pin")[1].corners()[-1])

    def test_corners_with_shifts(self):
        def assembly(allowance, way):
            sizes = [Size(name, ZERO, ONE, [(name * 2, allowance, way)]) for name in "abcde"]
            return Assembly([bar("pin", 0, 9), Part("rack", sizes + [Size("f", ZERO, ONE)])])

        # Five sizes with shifts have four corners each, or three where a room is 0 at one end, or two.
        self.refused(TooMany, gauge_of, assembly(HALF, "fixed"), "pin")
        self.assertEqual(gauge_of(assembly(ZERO, "big"), "pin")["rack.a"], ZERO)
        self.assertEqual(gauge_of(assembly(ZERO, "fixed"), "pin")["rack.aa"], ZERO)

    def test_refused(self):
        for part in ("none", "", "box.wide", None, 7, ("pin",)):
            self.refused(NoPart, gauge_of, boxed(3, 6), part)
            self.refused(NoPart, gauge_of, sorted_pins(11), part)

    def test_six_parts(self):
        for room in (2, 1, 0, -1):
            assembly = six_parts(room)
            for part in "af":
                told = gauge_of(assembly, part)
                if told is not None:
                    self.assertIsNone(parting_of(assembly, part, told))

    def test_told_anew(self):
        assembly = boxed(3, 6)
        gauge_of(assembly, "pin").clear()
        self.assertEqual(gauge_of(assembly, "pin"), {"box.wide": (4, 1)})


if __name__ == "__main__":
    unittest.main()
