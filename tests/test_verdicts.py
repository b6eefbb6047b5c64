import copy
import random
import unittest
from fractions import Fraction

from fitwhatever.assemblies import Assembly
from fitwhatever.parts import Part
from fitwhatever.stocks import Size
from fitwhatever.tablecheck import table_holds
from fitwhatever.verdictcheck import verdict_holds
from fitwhatever.verdicts import verdict_of
from fitwhatever.weighcheck import kept_by, never_holds
from helpers import (
    ONE, always_goes_together, bar, boxed, chain_value, goes_together, is_chain, moved, narrowed, number, place,
    put_rows, random_assembly, random_making, shuffled, six_parts)

LENGTHS = {"always": 2, "never": 2, "some": 5}


def plate(name, *faces):
    """A part without sizes, each face a tuple (name, axis, number)."""
    part = Part(name, [])
    for face, axis, value in faces:
        part.put_face(face, axis, None, place(value))
    return part


class VerdictOfTest(unittest.TestCase):
    def word(self, assembly):
        """The word of a verdict, its paper held by the checker and by the words of point 18."""
        gaps, stock = assembly.gaps(), assembly.stock()
        before = copy.deepcopy((gaps, assembly.rows(), stock.corners()))
        told = verdict_of(assembly)
        self.assertEqual((assembly.gaps(), assembly.rows(), assembly.stock().corners()), before)
        self.assertIs(type(told), tuple)
        self.assertEqual(len(told), LENGTHS[told[0]])
        self.assertIs(verdict_holds(assembly, told), True)
        getattr(self, "hold_" + told[0])(gaps, stock, *told[1:])
        return told[0]

    def hold_always(self, gaps, stock, table):
        self.assertEqual([type(part) for part in (table,) + table], [tuple, tuple, tuple])
        self.assertEqual(sorted(table[0]), sorted({node for gap in gaps for node in gap[:2]}))
        self.assertIs(table_holds(gaps, stock, table), True)

    def hold_never(self, gaps, stock, weights):
        self.assertIs(type(weights), tuple)
        self.assertEqual(len(weights), len(gaps))
        self.assertIs(never_holds(gaps, stock, weights), True)

    def hold_some(self, gaps, stock, making, places, breaking, chain):
        self.assertEqual([type(part) for part in (making, places, breaking, chain)], [dict, dict, dict, tuple])
        self.assertEqual(set(places), {node for gap in gaps for node in gap[:2]})
        self.assertIs(kept_by(gaps, stock, making, places), True)
        self.assertIs(stock.keeps(breaking), True)
        self.assertTrue(is_chain(gaps, chain))
        self.assertLess(chain_value(gaps, chain, breaking), 0)

    def test_a_pin_in_a_box(self):
        for least, most, word in [(3, 4, "always"), (4, 4, "always"), (3, "401/100", "some"), (5, 5, "some"),
                                  (4, 6, "some"), ("501/100", 6, "never"), (-3, -2, "always"), (6, 7, "never")]:
            self.assertEqual(self.word(boxed(least, most)), word, (least, most))

    def test_just_kept_and_just_not(self):
        little = Fraction(1, 10 ** 18 - 1)
        for least, most, word in [(3, 4, "always"), (3, 4 + little, "some"), (5, 5 + little, "some"),
                                  (5 - little, 5, "some"), (5 + little, 6, "never")]:
            self.assertEqual(self.word(boxed(least, most)), word, (least, most))

    def test_without_rows(self):
        for parts in ([bar("box", 4, 5)], [plate("box")], [bar("box", 4, 5), plate("pin", ("a", "x", 0))]):
            self.assertEqual(self.word(Assembly(parts)), "always")
            self.assertEqual(verdict_of(Assembly(parts)), ("always", ((), ())))

    def test_without_sizes(self):
        parts = [plate("box", ("a", "x", 0), ("b", "x", 4)), plate("pin", ("a", "x", 1), ("b", "x", 5))]
        rows = [("lies", ("box", "a"), ("pin", "a"))]
        self.assertEqual(self.word(put_rows(Assembly(parts), rows)), "always")
        rows.append(("ahead", ("pin", "b"), ("box", "b")))
        self.assertEqual(self.word(put_rows(Assembly(parts), rows)), "always")
        rows.append(("ahead", ("pin", "b"), ("box", "a")))
        self.assertEqual(self.word(put_rows(Assembly(parts), rows)), "never")

    def test_faces_of_one_part(self):
        part = bar("box", -1, 1)
        for rows, word in [([("ahead", ("box", "left"), ("box", "left"))], "always"),
                           ([("lies", ("box", "right"), ("box", "right"))], "always"),
                           ([("ahead", ("box", "left"), ("box", "right"))], "some"),
                           ([("lies", ("box", "left"), ("box", "right"))], "some")]:
            self.assertEqual(self.word(put_rows(Assembly([part]), rows)), word)
        for least, most, word in [(0, 1, "always"), (1, 2, "always"), (-2, -1, "never"), (-1, 0, "some")]:
            rows = [("ahead", ("box", "left"), ("box", "right"))]
            self.assertEqual(self.word(put_rows(Assembly([bar("box", least, most)]), rows)), word)

    def test_each_can_be_kept_but_not_both(self):
        assembly = put_rows(Assembly([bar("box", -1, 1), plate("pin", ("a", "x", 0), ("b", "x", "1/2"))]), [
            ("lies", ("box", "left"), ("pin", "a")), ("ahead", ("pin", "b"), ("box", "right")),
        ])
        self.assertEqual(self.word(assembly), "some")
        both = put_rows(assembly, [("ahead", ("box", "right"), ("pin", "a"))])
        self.assertEqual(self.word(both), "never")

    def test_on_both_axes(self):
        def block(name, least, most):
            part = Part(name, [Size("wide", number(least), number(most))])
            for axis in "xy":
                part.put_face("low" + axis, axis, None, place(0))
                part.put_face("top" + axis, axis, None, place(0, ("wide", 1)))
            return part

        for least, most, word in [(3, 4, "always"), (3, 5, "some"), (6, 7, "never")]:
            for axes in ("x", "y", "xy"):
                rows = [("within", ("pin", "low" + axis), ("pin", "top" + axis), ("box", "low" + axis),
                         ("box", "top" + axis)) for axis in axes]
                assembly = put_rows(Assembly([block("box", 4, 5), block("pin", least, most)]), rows)
                self.assertEqual(self.word(assembly), word)
        # By the one axis wide must be from 4 on, by the other at most 3.
        rows = [("ahead", ("pin", "x"), ("box", "topx")), ("lies", ("pin", "x"), ("box", "lowx")),
                ("ahead", ("box", "topy"), ("pin", "y")), ("lies", ("box", "lowy"), ("pin", "y"))]
        pin = plate("pin", ("x", "x", 4), ("y", "y", 3))
        self.assertEqual(self.word(put_rows(Assembly([block("box", -1, 9), pin]), rows)), "some")
        rows[1] = ("ahead", ("box", "lowx"), ("box", "topx"))
        rows[3] = ("ahead", ("box", "topy"), ("box", "lowy"))
        self.assertEqual(self.word(put_rows(Assembly([block("box", -1, 9), pin]), rows[1::2])), "some")
        self.assertEqual(self.word(put_rows(Assembly([block("box", 1, 9), pin]), rows[1::2])), "never")

    def test_shifts(self):
        for way, word in (("fixed", "always"), ("big", "always"), ("small", "some")):
            box = Part("box", [Size("wide", ONE, (2, 1), [("off", ONE, way)])])
            box.put_face("low", "x", None, place(0))
            box.put_face("top", "x", None, place(0, ("wide", 1), ("off", 1)))
            # wide and off come to 0 at the least by fixed and by big, to -1 by small.
            self.assertEqual(self.word(put_rows(Assembly([box]), [("ahead", ("box", "low"), ("box", "top"))])), word)

    def test_against_all_corners(self):
        chance = random.Random(80)
        words = []
        for k in range(300):
            assembly = random_assembly(chance, chance.choice(["x", "xy"]))
            gaps, stock = assembly.gaps(), assembly.stock()
            words.append(self.word(assembly))
            self.assertIs(words[-1] == "always", always_goes_together(gaps, stock))
            if words[-1] == "never":
                makings = stock.corners() + [random_making(chance, stock) for j in range(3)]
                self.assertFalse(any(goes_together(gaps, making) for making in makings))
            if words[-1] == "some":
                told = verdict_of(assembly)
                self.assertTrue(goes_together(gaps, told[1]))
                self.assertFalse(goes_together(gaps, told[3]))
        self.assertGreater(min(words.count(word) for word in LENGTHS), 20)

    def test_put_one_by_one(self):
        chance = random.Random(81)
        for k in range(60):
            whole = random_assembly(chance, "xy")
            assembly = Assembly(whole.parts())
            words = [self.word(assembly)]
            for row in whole.rows():
                words.append(self.word(put_rows(assembly, [row])))
            # Each row may only spoil it.
            self.assertEqual(words, sorted(words, key=["always", "some", "never"].index))
            self.assertEqual(words[-1], self.word(whole))

    def test_in_another_order_and_moved(self):
        chance = random.Random(82)
        for k in range(120):
            assembly = random_assembly(chance, "xy")
            word = self.word(assembly)
            self.assertEqual(self.word(shuffled(chance, assembly)), word)
            self.assertEqual(self.word(moved(chance, assembly)), word)

    def test_narrower_bounds(self):
        chance = random.Random(83)
        kept, spoiled = 0, 0
        for k in range(200):
            assembly = random_assembly(chance, "xy")
            word = self.word(assembly)
            other = self.word(narrowed(chance, assembly))
            if word != "some":
                self.assertEqual(other, word)
            kept += word != "some"
            spoiled += word == "some" and other != "some"
        self.assertGreater(min(kept, spoiled), 4)

    def test_six_parts_and_sixteen_gaps(self):
        chance = random.Random(84)
        words = []
        for room in (5, 2, 1, "1/2", 0, "-1/2", -1):
            assembly = six_parts(room)
            self.assertEqual((len(assembly.stock().names()), len(assembly.gaps())), (12, 16))
            words.append(self.word(assembly))
            self.assertEqual(self.word(moved(chance, shuffled(chance, assembly))), words[-1])
        self.assertEqual(words, sorted(words, key=["always", "some", "never"].index))
        self.assertEqual(set(words), set(LENGTHS))

    def test_told_anew(self):
        assembly = boxed(3, 6)
        told = verdict_of(assembly)
        kept = copy.deepcopy(told)
        for part in told[1:4]:
            part.clear()
        self.assertEqual(verdict_of(assembly), kept)

    def test_a_verdict_stays_with_what_was(self):
        assembly = boxed(3, 4)
        told = verdict_of(assembly)
        assembly.ahead(("box", "right"), ("box", "left"))
        self.assertEqual(self.word(assembly), "never")
        self.assertIs(verdict_holds(assembly, told), False)
        self.assertIs(verdict_holds(boxed(3, 4), told), True)


if __name__ == "__main__":
    unittest.main()
