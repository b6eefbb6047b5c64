import copy
import random
import unittest
from fractions import Fraction

from fitwhatever.assemblies import Assembly
from fitwhatever.errors import NoFace, NoFit, NoJoint, NoMaking
from fitwhatever.parts import Part
from fitwhatever.places import least_places
from fitwhatever.reaches import reach_at, reach_of
from fitwhatever.stocks import Size
from fitwhatever.verdicts import verdict_of
from fitwhatever.weighcheck import kept_by, weighs
from helpers import (
    HALF, ONE, ZERO, AssemblyTest, bar, boxed, chain_value, goes_together, is_chain, most_by_paths, moved, number, place,
    put_rows, random_assembly, random_making, shuffled, six_parts, value_at)

BOX, PIN = ("box", "left"), ("pin", "left")
BOX_END, PIN_END = ("box", "right"), ("pin", "right")
STRANGE = [("box", "none"), ("lid", "left"), ("left", "box"), ("box", "frame"), ("box",), ("box", "left", "left"),
           "box.left", None, ("box", "wide")]


def link_of(assembly, one, other):
    """The target whose value is the other face's place less the one's, put together by hand."""
    (low, first), (high, second) = assembly.place_of(one), assembly.place_of(other)
    pairs = [(name, Fraction(*factor)) for name, factor in second[1]]
    pairs += [(name, -Fraction(*factor)) for name, factor in first[1]]
    return (low, high, place(Fraction(*second[0]) - Fraction(*first[0]), *pairs))


def two_axes():
    """A pin in a box by x, with a face of each by y, too."""
    parts = boxed(3, 4).parts()
    for part in parts:
        part.put_face("top", "y", None, place(1, ("wide", 2)))
    return put_rows(Assembly(parts), boxed(3, 4).rows())


class ReachOfTest(AssemblyTest):
    def values(self, assembly, one, other):
        """The least and the most, with their papers held by the checkers and by the words of 17 and 19."""
        told = self.ask(reach_of, assembly, one, other)
        self.assertEqual((type(told), len(told)), (tuple, 2))
        self.hold(assembly, one, other, told[1], 1)
        self.hold(assembly, other, one, told[0], -1)
        return tuple(None if end is None else Fraction(*end[0]) for end in told)

    def hold(self, assembly, one, other, end, sign):
        gaps, stock, target = assembly.gaps(), assembly.stock(), link_of(assembly, one, other)
        if end is None:
            self.assertNotEqual(target[0], target[1])
            return
        value, making, places, weights = end
        self.assertEqual([type(part) for part in end], [tuple, dict, dict, tuple])
        self.assertEqual(value, number(Fraction(*value)))
        self.assertEqual(set(places), {node for gap in gaps + [target] for node in gap[:2]})
        self.assertIs(kept_by(gaps, stock, making, places), True)
        apart = Fraction(*places[target[1]]) - Fraction(*places[target[0]]) + value_at(target[2], making)
        self.assertEqual(apart, sign * Fraction(*value))
        self.assertIs(weighs(target, gaps, stock, weights, number(apart)), True)

    def test_a_pin_in_a_box(self):
        # The pin is from 3 to 9/2, the box from 4 to 5: so there is room from 0 to 2.
        assembly = boxed(3, "9/2")
        for one, other, least, most in [
                (BOX, PIN, 0, 2), (PIN, BOX, -2, 0), (PIN_END, BOX_END, 0, 2), (BOX, PIN_END, 3, 5), (PIN, BOX_END, 3, 5),
                (BOX, BOX_END, 4, 5), (PIN, PIN_END, 3, Fraction(9, 2)), (PIN_END, PIN, Fraction(-9, 2), -3)]:
            self.assertEqual(self.values(assembly, one, other), (least, most), (one, other))

    def test_only_what_goes_together_counts(self):
        # The box is up to 5, and so is the pin in it.
        self.assertEqual(self.values(boxed(3, 9), PIN, PIN_END), (3, 5))
        self.assertEqual(self.values(boxed("9/2", 9), BOX, BOX_END), (Fraction(9, 2), 5))
        self.assertEqual(self.values(boxed(5, 9), BOX, PIN), (0, 0))
        self.assertEqual(self.values(boxed(5, 9), BOX, PIN_END), (5, 5))

    def test_none_where_there_is_none(self):
        parts = [bar("box", 4, 5), bar("pin", 3, 4), bar("lid", 1, 2)]
        assembly = put_rows(Assembly(parts), [("ahead", BOX, PIN)])
        self.assertEqual(self.values(assembly, BOX, PIN), (0, None))
        self.assertEqual(self.values(assembly, PIN, BOX), (None, 0))
        self.assertEqual(self.values(assembly, BOX_END, PIN_END), (-2, None))
        self.assertEqual(self.values(assembly, BOX, ("lid", "left")), (None, None))
        self.assertEqual(self.values(assembly, ("lid", "right"), PIN), (None, None))
        self.assertEqual(self.values(assembly, ("lid", "right"), ("lid", "left")), (-2, -1))

    def test_without_rows(self):
        assembly = Assembly([bar("box", 4, 5), bar("pin", 3, 4)])
        self.assertEqual(self.values(assembly, BOX, PIN), (None, None))
        self.assertEqual(self.values(assembly, BOX, BOX_END), (4, 5))
        self.assertEqual(set(reach_of(assembly, BOX, BOX_END)[0][2]), {("x", "box")})

    def test_a_face_and_itself(self):
        for face in (BOX, BOX_END, PIN, PIN_END):
            for assembly in (boxed(3, 4), boxed(5, 9), Assembly([bar("box", 4, 5), bar("pin", 3, 4)])):
                self.assertEqual(self.values(assembly, face, face), (0, 0))
                self.assertEqual([end[0] for end in reach_of(assembly, face, face)], [ZERO, ZERO])

    def test_two_faces_that_lie_on_one_another(self):
        assembly = put_rows(Assembly([bar("box", 4, 5), bar("pin", 3, 4)]), [("lies", BOX_END, PIN)])
        self.assertEqual(self.values(assembly, BOX_END, PIN), (0, 0))
        self.assertEqual(self.values(assembly, BOX, PIN_END), (7, 9))

    def test_on_the_other_axis(self):
        assembly = two_axes()
        self.assertEqual(self.values(assembly, ("box", "top"), ("pin", "top")), (None, None))
        self.assertEqual(self.values(assembly, ("box", "top"), ("box", "top")), (0, 0))
        self.assertIn(("y", "box"), reach_of(assembly, ("box", "top"), ("box", "top"))[0][2])
        self.assertEqual(self.values(assembly, BOX, PIN), (0, 2))

    def test_shifts(self):
        part = Part("pin", [Size("wide", (3, 1), (4, 1), [("off", HALF, "small")])])
        part.put_face("left", "x", None, place(0, ("off", 1)))
        part.put_face("right", "x", None, place(0, ("wide", 1)))
        assembly = put_rows(Assembly([bar("box", 4, 5), part]), [("within", PIN, PIN_END, BOX, BOX_END)])
        # wide less off is at the least 3/2 and at the most 9/2, both by the least of wide.
        self.assertEqual(self.values(assembly, PIN, PIN_END), (Fraction(3, 2), Fraction(9, 2)))
        self.assertEqual(self.values(assembly, BOX, PIN), (0, Fraction(7, 2)))

    def test_against_slow_searches(self):
        chance = random.Random(90)
        many, ends = 0, []
        for k in range(150):
            assembly = random_assembly(chance, chance.choice(["x", "xy"]))
            gaps, stock = assembly.gaps(), assembly.stock()
            one, other = self.faces_of_one_axis(chance, assembly)
            if verdict_of(assembly)[0] == "never":
                self.assertIsNone(self.refused(NoFit, reach_of, assembly, one, other).chain)
                continue
            least, most = self.values(assembly, one, other)
            ends += [least, most]
            for making in stock.corners() + [random_making(chance, stock) for j in range(3)]:
                if goes_together(gaps, making):
                    many += 1
                    far = most_by_paths(link_of(assembly, one, other), gaps, making)
                    near = most_by_paths(link_of(assembly, other, one), gaps, making)
                    self.assertEqual((far is None, near is None), (most is None, least is None))
                    self.assertTrue((far is None or far <= most) and (near is None or -near >= least))
        self.assertGreater(min(many, ends.count(None), len(ends) - ends.count(None)), 40)

    def faces_of_one_axis(self, chance, assembly):
        faces = [(axis, part.name, name) for part in assembly.parts() for name, axis, spot in part.faces()]
        one = chance.choice(faces)
        return one[1:], chance.choice([face for face in faces if face[0] == one[0]])[1:]

    def test_the_other_way_about_moved_and_in_another_order(self):
        chance = random.Random(91)
        for k in range(60):
            assembly = random_assembly(chance, "xy")
            one, other = self.faces_of_one_axis(chance, assembly)
            if verdict_of(assembly)[0] != "never":
                least, most = self.values(assembly, one, other)
                turned = (None if most is None else -most, None if least is None else -least)
                self.assertEqual(self.values(assembly, other, one), turned)
                self.assertEqual(self.values(moved(chance, assembly), one, other), (least, most))
                self.assertEqual(self.values(shuffled(chance, assembly), one, other), (least, most))

    def test_six_parts(self):
        assembly = six_parts(2)
        for one, other in [("a", "d"), ("f", "b"), ("c", "c")]:
            for axis in "xy":
                self.values(assembly, (one, "low" + axis), (other, "top" + axis))

    def test_no_face(self):
        for face in STRANGE:
            self.refused(NoFace, reach_of, boxed(3, 4), face, PIN)
            self.refused(NoFace, reach_of, boxed(3, 4), PIN, face)
            # It goes ahead of two axes, and of what never goes together.
            self.refused(NoFace, reach_of, two_axes(), face, ("pin", "top"))
            self.refused(NoFace, reach_of, boxed(6, 7), PIN, face)

    def test_no_joint(self):
        for one, other in [(BOX, ("pin", "top")), (("box", "top"), BOX), (PIN, ("pin", "top"))]:
            self.refused(NoJoint, reach_of, two_axes(), one, other)
            never = two_axes().with_bounds("pin.wide", (6, 1), (7, 1))
            self.assertEqual(verdict_of(never)[0], "never")
            self.refused(NoJoint, reach_of, never, one, other)

    def test_no_fit(self):
        for one, other in [(BOX, PIN), (PIN, PIN), (BOX, BOX_END), (PIN_END, BOX)]:
            self.assertIsNone(self.refused(NoFit, reach_of, boxed(6, 7), one, other).chain)
        never = two_axes().with_bounds("pin.wide", (6, 1), (7, 1))
        self.assertIsNone(self.refused(NoFit, reach_of, never, ("box", "top"), ("pin", "top")).chain)

    def test_told_anew(self):
        assembly = boxed(3, 4)
        told = reach_of(assembly, BOX, PIN)
        kept = copy.deepcopy(told)
        for end in told:
            end[1].clear()
            end[2].clear()
        self.assertEqual(reach_of(assembly, BOX, PIN), kept)
        told = reach_of(assembly, BOX, BOX)
        told[0][1].clear()
        told[0][2].clear()
        self.assertTrue(told[1][1] and told[1][2])


class ReachAtTest(AssemblyTest):
    def at(self, assembly, making, one, other):
        told = self.ask(reach_at, assembly, making, one, other)
        self.assertEqual((type(told), len(told)), (tuple, 2))
        self.assertTrue(all(end is None or end == number(Fraction(*end)) for end in told))
        return told

    def made(self, box, pin):
        return {"box.wide": number(box), "pin.wide": number(pin)}

    def test_by_hand(self):
        for box, pin, room in [(5, 3, 2), (4, 4, 0), ("9/2", "10/3", "7/6")]:
            making = self.made(box, pin)
            self.assertEqual(self.at(boxed(3, 6), making, BOX, PIN), (ZERO, number(room)))
            self.assertEqual(self.at(boxed(3, 6), making, PIN, BOX), (number(-Fraction(room)), ZERO))
            self.assertEqual(self.at(boxed(3, 6), making, BOX, BOX_END), (number(box), number(box)))
            self.assertEqual(self.at(boxed(3, 6), making, PIN, PIN), (ZERO, ZERO))

    def test_none_where_there_is_none(self):
        assembly = put_rows(Assembly([bar("box", 4, 5), bar("pin", 3, 4)]), [("ahead", BOX, PIN)])
        self.assertEqual(self.at(assembly, self.made(4, 3), BOX_END, PIN_END), ((-1, 1), None))
        self.assertEqual(self.at(assembly, self.made(4, 3), PIN_END, BOX_END), (None, ONE))
        free = Assembly(assembly.parts())
        self.assertEqual(self.at(free, self.made(4, 3), PIN_END, BOX_END), (None, None))
        self.assertEqual(self.at(free, self.made(4, 3), PIN_END, PIN), ((-3, 1), (-3, 1)))

    def test_against_slow_searches(self):
        chance = random.Random(92)
        many = 0
        for k in range(200):
            assembly = random_assembly(chance, chance.choice(["x", "xy"]))
            gaps, making = assembly.gaps(), random_making(chance, assembly.stock())
            one, other = ReachOfTest.faces_of_one_axis(self, chance, assembly)
            if goes_together(gaps, making):
                many += 1
                far = most_by_paths(link_of(assembly, one, other), gaps, making)
                near = most_by_paths(link_of(assembly, other, one), gaps, making)
                slow = (None if near is None else number(-near), None if far is None else number(far))
                self.assertEqual(self.at(assembly, making, one, other), slow)
                self.assertEqual(self.at(shuffled(chance, assembly), making, one, other), slow)
                self.assertEqual(self.at(moved(chance, assembly), making, one, other), slow)
                self.within_reach(slow, reach_of(assembly, one, other))
            else:
                chain = self.refused(NoFit, reach_at, assembly, making, one, other).chain
                self.assertTrue(is_chain(gaps, chain))
                self.assertLess(chain_value(gaps, chain, making), 0)
        self.assertTrue(80 < many < 180, many)

    def within_reach(self, slow, reach):
        for sign, value, end in zip((1, -1), slow, reach):
            if value is not None:
                self.assertGreaterEqual(sign * Fraction(*value), sign * Fraction(*end[0]))

    def test_the_told_making_reaches_it(self):
        assembly = boxed(3, 9)
        for one, other in [(BOX, PIN), (PIN, PIN_END), (BOX_END, PIN), (BOX, PIN_END)]:
            least, most = reach_of(assembly, one, other)
            self.assertEqual(self.at(assembly, least[1], one, other)[0], least[0])
            self.assertEqual(self.at(assembly, most[1], one, other)[1], most[0])

    def test_no_face(self):
        for face in STRANGE:
            for making in (self.made(4, 3), self.made(4, 9), {}, self.made(4, 6)):
                self.refused(NoFace, reach_at, boxed(3, 6), making, face, PIN)
                self.refused(NoFace, reach_at, boxed(3, 6), making, PIN, face)
                self.refused(NoFace, reach_at, two_axes(), making, face, ("pin", "top"))

    def test_no_joint(self):
        for making in (self.made(4, 3), self.made(4, 9), {}):
            self.refused(NoJoint, reach_at, two_axes(), making, BOX, ("pin", "top"))
            self.refused(NoJoint, reach_at, two_axes(), making, ("pin", "top"), PIN)

    def test_no_making(self):
        for making in ({}, {"box.wide": (4, 1)}, self.made(4, "61/10"), self.made("39/10", 3), self.made(4, "29/10"),
                       {**self.made(4, 3), "none": ZERO}, {"box.wide": (4, 1), "wide": (3, 1)}):
            self.refused(NoMaking, reach_at, boxed(3, 6), making, BOX, PIN)
            self.refused(NoMaking, reach_at, boxed(3, 6), making, PIN, PIN)
        # It goes ahead of what doesn't go together.
        self.refused(NoMaking, reach_at, boxed(6, 7), self.made(4, 8), BOX, PIN)

    def test_no_fit(self):
        for one, other in [(BOX, PIN), (PIN, PIN), (BOX, BOX_END)]:
            self.assertEqual(self.refused(NoFit, reach_at, boxed(3, 6), self.made(4, "401/100"), one, other).chain, (0, 1))
        with self.assertRaises(NoFit):
            least_places(boxed(3, 6).gaps(), self.made(4, "401/100"))


if __name__ == "__main__":
    unittest.main()
