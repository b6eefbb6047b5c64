import unittest

from fitwhatever.assemblies import Assembly
from fitwhatever.errors import NoFace, NoJoint, NoPart, NoSize, TooMany
from fitwhatever.parts import Part
from fitwhatever.stocks import Size
from fitwhatever.sums import sum_of

ZERO = (0, 1)
ONE = (1, 1)
EMPTY = (ZERO, ())


def box():
    part = Part("box", [Size("wide", (4, 1), (5, 1), [("off", (1, 2), "fixed")])])
    part.put_face("left", "x", None, sum_of(ZERO, [("off", ONE)]))
    part.put_face("right", "x", "left", sum_of(ZERO, [("wide", ONE)]))
    part.put_face("floor", "y", None, EMPTY)
    return part


def lid():
    part = Part("lid", [Size("wide", (3, 1), (4, 1)), Size("low", ONE, ONE)])
    part.put_face("near", "x", None, EMPTY)
    part.put_face("far", "x", None, sum_of((1, 2), [("wide", ONE)]))
    part.put_face("under", "y", None, sum_of(ZERO, [("low", (-1, 1))]))
    return part


def boxed():
    return Assembly([box(), lid()])


def full():
    """An assembly with each row once, five gaps."""
    assembly = boxed()
    assembly.within(("lid", "near"), ("lid", "far"), ("box", "left"), ("box", "right"))
    assembly.lies(("lid", "under"), ("box", "floor"))
    assembly.ahead(("box", "left"), ("lid", "far"))
    return assembly


FULL_ROWS = [
    ("within", ("lid", "near"), ("lid", "far"), ("box", "left"), ("box", "right")),
    ("lies", ("lid", "under"), ("box", "floor")),
    ("ahead", ("box", "left"), ("lid", "far")),
]
XBOX, XLID, YBOX, YLID = ("x", "box"), ("x", "lid"), ("y", "box"), ("y", "lid")
FULL_GAPS = [
    (XBOX, XLID, (ZERO, (("box.off", (-1, 1)),))),
    (XLID, XBOX, ((-1, 2), (("box.off", ONE), ("box.wide", ONE), ("lid.wide", (-1, 1))))),
    (YLID, YBOX, (ZERO, (("lid.low", ONE),))),
    (YBOX, YLID, (ZERO, (("lid.low", (-1, 1)),))),
    (XBOX, XLID, ((1, 2), (("box.off", (-1, 1)), ("lid.wide", ONE)))),
]


def state(assembly):
    """All that an assembly tells, in tuples, so that nothing done to a told list changes it."""
    parts = [(part.name, sizes_of(part.stock()), tuple(part.faces())) for part in assembly.parts()]
    return (parts, sizes_of(assembly.stock()), tuple(assembly.rows()), tuple(assembly.gaps()))


def sizes_of(stock):
    return [(size.name, size.least, size.most, size.shifts) for size in stock.sizes()]


def plain_part(name, many):
    """A part with so many names."""
    return Part(name, [Size(word, ZERO, ONE) for word in "abcdefghijklmnop"[:many]])


class AssemblyTest(unittest.TestCase):
    def test_of_a_list_or_a_tuple(self):
        for parts in ([box(), lid()], (box(), lid())):
            assembly = Assembly(parts)
            self.assertEqual([part.name for part in assembly.parts()], ["box", "lid"])
            self.assertEqual((assembly.rows(), assembly.gaps()), ([], []))

    def test_the_stock_in_the_order_of_the_parts(self):
        self.assertEqual(boxed().stock().names(), ["box.wide", "box.off", "lid.wide", "lid.low"])
        other = Assembly([lid(), box()]).stock()
        self.assertEqual(other.names(), ["lid.wide", "lid.low", "box.wide", "box.off"])
        self.assertEqual(sizes_of(other)[2], ("box.wide", (4, 1), (5, 1), (("box.off", (1, 2), "fixed"),)))

    def test_one_to_six_parts(self):
        for many in range(1, 7):
            parts = [plain_part(name, 2) for name in "fedcba"[:many]]
            self.assertEqual([part.name for part in Assembly(parts).parts()], list("fedcba"[:many]))
        for parts in ([], (), [Part(name, []) for name in "abcdefg"]):
            with self.assertRaises(NoPart):
                Assembly(parts)

    def test_a_name_that_comes_twice(self):
        with self.assertRaises(NoPart):
            Assembly([box(), lid(), Part("box", [])])
        part = box()
        with self.assertRaises(NoPart):
            Assembly([part, part])

    def test_at_most_twelve_names(self):
        self.assertEqual(len(Assembly([plain_part("a", 12)]).stock().names()), 12)
        self.assertEqual(len(Assembly([plain_part("a", 5), plain_part("b", 7)]).stock().names()), 12)
        shifted = Part("c", [Size("a", ZERO, ONE, [("b", ZERO, "big")])])
        for parts in ([plain_part("a", 13)], [plain_part("a", 6), plain_part("b", 7)], [plain_part("a", 11), shifted]):
            with self.assertRaises(TooMany):
                Assembly(parts)

    def test_no_part_goes_first(self):
        for parts in ([plain_part(name, 2) for name in "abcdefg"], [plain_part("a", 7), plain_part("a", 7)]):
            with self.assertRaises(NoPart):
                Assembly(parts)

    def test_place_of(self):
        assembly = boxed()
        told = (XBOX, (ZERO, (("box.off", ONE), ("box.wide", ONE))))
        self.assertEqual(assembly.place_of(("box", "right")), told)
        self.assertEqual(assembly.place_of(("lid", "under")), (YLID, (ZERO, (("lid.low", (-1, 1)),))))
        self.assertEqual(assembly.place_of(("lid", "near")), (XLID, EMPTY))
        for face in [("box", "near"), ("lid", "left"), ("cup", "left"), ("box", "frame"), ("box", ""), ("left", "box")]:
            with self.assertRaises(NoFace):
                assembly.place_of(face)


class RowsTest(unittest.TestCase):
    def test_rows_and_gaps_as_put(self):
        assembly = full()
        self.assertEqual(assembly.rows(), FULL_ROWS)
        self.assertEqual(assembly.gaps(), FULL_GAPS)

    def test_each_row_tells_nothing(self):
        assembly = boxed()
        self.assertIsNone(assembly.lies(("lid", "under"), ("box", "floor")))
        self.assertIsNone(assembly.ahead(("box", "left"), ("lid", "far")))
        self.assertIsNone(assembly.within(*FULL_ROWS[0][1:]))

    def test_lies(self):
        assembly = boxed()
        assembly.lies(("box", "left"), ("lid", "far"))
        rising = ((1, 2), (("box.off", (-1, 1)), ("lid.wide", ONE)))
        falling = ((-1, 2), (("box.off", ONE), ("lid.wide", (-1, 1))))
        self.assertEqual(assembly.gaps(), [(XBOX, XLID, rising), (XLID, XBOX, falling)])

    def test_faces_of_one_part(self):
        assembly = boxed()
        assembly.ahead(("box", "left"), ("box", "right"))
        assembly.lies(("box", "left"), ("box", "left"))
        told = [(XBOX, XBOX, (ZERO, (("box.wide", ONE),))), (XBOX, XBOX, EMPTY), (XBOX, XBOX, EMPTY)]
        self.assertEqual(assembly.gaps(), told)

    def refused(self, assembly, error, word, *faces):
        before = state(assembly)
        with self.assertRaises(error, msg=repr((word, faces))):
            getattr(assembly, word)(*faces)
        self.assertEqual(state(assembly), before)

    def test_a_face_that_is_not_there(self):
        good, other = ("box", "left"), ("lid", "near")
        for bad in [("box", "near"), ("cup", "left"), ("box", "frame")]:
            for word in ("lies", "ahead"):
                self.refused(full(), NoFace, word, bad, good)
                self.refused(full(), NoFace, word, good, bad)
            for at in range(4):
                faces = [good, other, good, other]
                faces[at] = bad
                self.refused(full(), NoFace, "within", *faces)

    def test_not_on_one_axis(self):
        good, bad = ("box", "left"), ("lid", "under")
        for word in ("lies", "ahead"):
            self.refused(full(), NoJoint, word, bad, good)
            self.refused(full(), NoJoint, word, good, bad)
        for at in range(4):
            faces = [good] * 4
            faces[at] = bad
            self.refused(full(), NoJoint, "within", *faces)
        self.refused(full(), NoJoint, "within", good, bad, good, bad)
        self.refused(full(), NoJoint, "within", good, good, bad, bad)

    def filled(self, many):
        """An assembly with so many gaps."""
        assembly = boxed()
        for k in range(many):
            assembly.ahead(("box", "left"), ("lid", "far"))
        return assembly

    def test_at_most_sixteen_gaps(self):
        left, far, floor = ("box", "left"), ("lid", "far"), ("box", "floor")
        self.assertEqual(len(self.filled(16).gaps()), 16)
        for word, faces in [("lies", (left, far)), ("within", (left, far, left, far))]:
            assembly = self.filled(14)
            getattr(assembly, word)(*faces)
            self.assertEqual(len(assembly.gaps()), 16)
            self.refused(self.filled(15), TooMany, word, *faces)
            self.refused(self.filled(16), TooMany, word, *faces)
            self.refused(assembly, TooMany, "ahead", left, far)
        self.refused(self.filled(16), TooMany, "ahead", left, far)
        assembly = self.filled(15)
        self.refused(assembly, TooMany, "lies", left, far)
        assembly.ahead(left, far)
        self.assertEqual(len(assembly.gaps()), 16)
        self.refused(assembly, NoJoint, "ahead", left, floor)
        self.refused(assembly, NoFace, "ahead", left, ("box", "none"))

    def test_which_refusal_goes_first(self):
        left, floor, none = ("box", "left"), ("box", "floor"), ("box", "none")
        self.refused(full(), NoFace, "within", left, floor, left, none)
        self.refused(self.filled(16), NoFace, "within", left, floor, left, none)
        self.refused(self.filled(16), NoJoint, "lies", left, floor)

    def test_lists_are_told_anew(self):
        assembly = full()
        before = state(assembly)
        for told in (assembly.rows(), assembly.gaps(), assembly.parts(), assembly.stock().sizes()):
            told.pop()
            told.clear()
        self.assertEqual(state(assembly), before)


class PartsOfAnAssemblyTest(unittest.TestCase):
    def test_what_is_done_to_a_part_behind_its_being_handed_in(self):
        parts = [box(), lid()]
        assembly = Assembly(parts)
        before = state(assembly)
        parts[0].put_face("new", "x", None, EMPTY)
        parts.pop()
        self.assertEqual(state(assembly), before)
        with self.assertRaises(NoFace):
            assembly.place_of(("box", "new"))

    def test_what_is_done_to_a_part_that_was_told(self):
        assembly = full()
        before = state(assembly)
        for part in assembly.parts():
            part.put_face("new", "y", None, EMPTY)
        self.assertEqual(state(assembly), before)

    def test_what_is_handed_in_is_not_changed(self):
        parts = [box(), lid()]
        assembly = Assembly(parts)
        assembly.lies(("lid", "under"), ("box", "floor"))
        assembly.with_moved("lid", "x", sum_of(ONE, []))
        assembly.with_bounds("box.wide", ZERO, ONE)
        self.assertEqual([part.faces() for part in parts], [box().faces(), lid().faces()])
        self.assertEqual(parts[0].stock().sizes()[0].most, (5, 1))

    def test_faces_put_ahead_of_it_are_there(self):
        self.assertEqual([part.faces() for part in boxed().parts()], [box().faces(), lid().faces()])


class NewAssembliesTest(unittest.TestCase):
    def test_with_bounds(self):
        assembly = full()
        before = state(assembly)
        told = assembly.with_bounds("lid.wide", (1, 2), (7, 1))
        self.assertEqual(sizes_of(told.stock())[1], ("lid.wide", (1, 2), (7, 1), ()))
        self.assertEqual(sizes_of(told.stock())[0], ("box.wide", (4, 1), (5, 1), (("box.off", (1, 2), "fixed"),)))
        self.assertEqual(sizes_of(told.parts()[1].stock())[0], ("wide", (1, 2), (7, 1), ()))
        self.assertEqual([part.faces() for part in told.parts()], [part.faces() for part in assembly.parts()])
        self.assertEqual((told.rows(), told.gaps()), (FULL_ROWS, FULL_GAPS))
        self.assertEqual(state(assembly), before)

    def test_with_bounds_keeps_shifts(self):
        told = full().with_bounds("box.wide", ONE, ONE)
        self.assertEqual(sizes_of(told.stock())[0], ("box.wide", ONE, ONE, (("box.off", (1, 2), "fixed"),)))

    def test_with_bounds_refused(self):
        assembly = full()
        before = state(assembly)
        for name in ["wide", "box.off", "box.low", "cup.wide", "box.", ".wide", "box", "", "box.wide.wide", None]:
            with self.assertRaises(NoSize):
                assembly.with_bounds(name, ZERO, ONE)
        with self.assertRaises(NoSize):
            assembly.with_bounds("box.wide", ONE, ZERO)
        self.assertEqual(state(assembly), before)

    def test_with_moved(self):
        assembly = full()
        before = state(assembly)
        told = assembly.with_moved("lid", "x", sum_of(ONE, [("wide", (-1, 1))]))
        self.assertEqual(told.parts()[0].faces(), box().faces())
        self.assertEqual(told.parts()[1].faces(), lid().moved("x", sum_of(ONE, [("wide", (-1, 1))])).faces())
        self.assertEqual(told.rows(), FULL_ROWS)
        self.assertEqual(told.gaps(), [
            (XBOX, XLID, (ONE, (("box.off", (-1, 1)), ("lid.wide", (-1, 1))))),
            (XLID, XBOX, ((-3, 2), (("box.off", ONE), ("box.wide", ONE)))),
            FULL_GAPS[2],
            FULL_GAPS[3],
            (XBOX, XLID, ((3, 2), (("box.off", (-1, 1)),))),
        ])
        self.assertEqual(sizes_of(told.stock()), sizes_of(assembly.stock()))
        self.assertEqual(state(assembly), before)

    def test_with_moved_refused(self):
        assembly = full()
        before = state(assembly)
        for part in ["cup", "", "box.wide", None]:
            with self.assertRaises(NoPart):
                assembly.with_moved(part, "x", EMPTY)
            with self.assertRaises(NoPart):
                assembly.with_moved(part, "z", sum_of(ZERO, [("none", ONE)]))
        for axis, by in [("z", EMPTY), ("", EMPTY), ("x", sum_of(ZERO, [("none", ONE)])),
                         ("x", sum_of(ZERO, [("lid.wide", ONE)])), ("x", sum_of(ZERO, [("off", ONE)]))]:
            with self.assertRaises(NoFace):
                assembly.with_moved("lid", axis, by)
        self.assertEqual(state(assembly), before)

    def test_new_ones_and_old_ones_go_apart(self):
        assembly = full()
        for told in (assembly.with_bounds("box.wide", ONE, ONE), assembly.with_moved("box", "y", EMPTY)):
            before = state(assembly)
            told.ahead(("box", "left"), ("box", "right"))
            self.assertEqual(state(assembly), before)
            before = state(told)
            assembly.ahead(("box", "right"), ("box", "left"))
            self.assertEqual(state(told), before)


if __name__ == "__main__":
    unittest.main()
