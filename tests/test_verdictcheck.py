import copy
import random
import unittest
from fractions import Fraction

from fitwhatever.assemblies import Assembly
from fitwhatever.chains import chain_sum, chains_of, nodes_of, tight_chain
from fitwhatever.numbers import is_less
from fitwhatever.places import least_places
from fitwhatever.sums import sum_at, sum_of
from fitwhatever.tables import table_of
from fitwhatever.verdictcheck import verdict_holds
from fitwhatever.weighings import most_of
from helpers import (
    HALF, ONE, ZERO, always_goes_together, bar, boxed, goes_together, number, random_assembly, random_making)

BOX, PIN = ("x", "box"), ("x", "pin")
LONG = 10 ** 40


def made(box, pin):
    return {"box.wide": number(box), "pin.wide": number(pin)}


def link(low, high, value, *pairs):
    return (low, high, sum_of(number(value), [(name, number(factor)) for name, factor in pairs]))


def verdict_by_tools(assembly):
    """A verdict of an assembly, put together of what the other modules tell."""
    gaps, stock = assembly.gaps(), assembly.stock()
    table = table_of(gaps, stock)
    if table is not None:
        return ("always", table)
    told = most_of((BOX, BOX, sum_of(ZERO, [])), gaps, stock)
    if told[0] == "none":
        return ("never", told[1])
    tight = tight_chain(gaps, stock)
    return ("some", told[2], told[3], tight[2], tight[0])


class VerdictTest(unittest.TestCase):
    def held(self, told, assembly, verdict):
        before = copy.deepcopy((verdict, assembly.rows(), assembly.gaps()))
        self.assertIs(verdict_holds(assembly, verdict), told, verdict)
        self.assertEqual((verdict, assembly.rows(), assembly.gaps()), before)


class AlwaysTest(VerdictTest):
    def rows(self):
        return (link(BOX, PIN, 0), link(PIN, BOX, 0, ("box.wide", 1), ("pin.wide", -1)))

    def test_by_hand(self):
        for order in ((BOX, PIN), (PIN, BOX)):
            self.held(True, boxed(3, 4), ("always", (order, self.rows())))
            self.held(True, boxed(3, 4), ("always", (order, self.rows()[::-1] * 2)))
            self.held(True, boxed(3, 4), ("always", (order, (link(BOX, PIN, 0), link(PIN, BOX, 0)))))
            self.held(True, boxed(3, "7/2"), ("always", (order, (link(BOX, PIN, "-1/2"), link(PIN, BOX, "1/2")))))

    def test_without_rows(self):
        self.held(True, Assembly([bar("box", 4, 5)]), ("always", ((), ())))
        self.held(False, Assembly([bar("box", 4, 5)]), ("always", ((BOX,), ())))
        self.held(False, boxed(3, 4), ("always", ((), ())))

    def test_a_table_that_is_not_good(self):
        order, rows = (BOX, PIN), self.rows()
        for table in [((BOX,), rows), ((BOX, BOX), rows), ((BOX, PIN, ("y", "pin")), rows), ((), rows),
                      (order, rows[:1]), (order, rows[1:]), (order, ()), (order, rows + (link(BOX, BOX, 1),)),
                      (order, rows + (link(BOX, ("x", "lid"), 1),)), (order, rows + (link(BOX, PIN, 0, ("none", 1)),)),
                      (order, (rows[0], link(PIN, BOX, "1/9"))), (order, (link(BOX, PIN, "-1/9"), rows[1]))]:
            self.held(False, boxed(3, 4), ("always", table))

    def test_of_an_assembly_that_does_not_always_go_together(self):
        self.held(False, boxed(3, "401/100"), ("always", ((BOX, PIN), self.rows())))
        self.held(False, boxed(3, Fraction(4 * LONG + 1, LONG)), ("always", ((BOX, PIN), self.rows())))
        self.held(False, boxed(6, 7), ("always", ((BOX, PIN), self.rows())))


class NeverTest(VerdictTest):
    def test_by_hand(self):
        for weights in ((ONE, ONE), (HALF, HALF), ((LONG, 1), (LONG, 1))):
            self.held(True, boxed(6, 7), ("never", weights))
            self.held(True, boxed(Fraction(5 * LONG + 1, LONG), 7), ("never", weights))

    def test_weights_that_show_nothing(self):
        for weights in [(), (ONE,), (ONE, ONE, ZERO), (ZERO, ZERO), (ONE, ZERO), (ZERO, ONE), (ONE, HALF),
                        ((-1, 1), (-1, 1)), ((-1, 1), ONE)]:
            self.held(False, boxed(6, 7), ("never", weights))

    def test_of_an_assembly_that_can_go_together(self):
        for least in (5, "49/10", 3):
            self.held(False, boxed(least, 7), ("never", (ONE, ONE)))
        self.held(False, Assembly([bar("box", 4, 5)]), ("never", ()))


class SomeTest(VerdictTest):
    def good(self):
        """A verdict of a pin from 3 to 6."""
        return ("some", made(5, "9/2"), {BOX: ZERO, PIN: HALF}, made("9/2", 5), (0, 1))

    def spoiled(self, at, *parts):
        for part in parts:
            verdict = list(self.good())
            verdict[at] = part
            self.held(False, boxed(3, 6), tuple(verdict))

    def changed(self, at, part):
        verdict = list(self.good())
        verdict[at] = part
        self.held(True, boxed(3, 6), tuple(verdict))

    def test_by_hand(self):
        self.held(True, boxed(3, 6), self.good())
        self.changed(1, made(5, 3))
        self.changed(2, {BOX: (-7, 1), PIN: (-7, 1)})
        self.changed(2, {BOX: ZERO, PIN: ZERO, ("y", "pin"): (9, 1), ("x", "none"): ZERO})
        self.changed(3, made(4, 6))
        self.changed(3, made(4, Fraction(4 * LONG + 1, LONG)))

    def test_a_making(self):
        self.spoiled(1, made(5, "46/10"), made(4, "9/2"), made("51/10", "9/2"), made(5, "29/10"), {}, made(4, 6))
        self.spoiled(1, {"box.wide": (5, 1)}, {**made(5, "9/2"), "none": ZERO}, {"box.wide": (5, 1), "none": (9, 2)})

    def test_places(self):
        self.spoiled(2, {BOX: ZERO, PIN: (51, 100)}, {BOX: ZERO, PIN: (-1, LONG)}, {BOX: HALF, PIN: ZERO})
        self.spoiled(2, {}, {BOX: ZERO}, {PIN: HALF}, {BOX: ZERO, ("x", "lid"): HALF}, {BOX: ZERO, ("y", "pin"): HALF})

    def test_a_breaking_that_does_not_keep_the_stock(self):
        self.spoiled(3, made(3, 5), made("9/2", 7), {}, {"pin.wide": (5, 1)}, {**made("9/2", 5), "none": ZERO},
                     {"box.wide": (9, 2), "none": (5, 1)}, made(Fraction(4 * LONG - 1, LONG), 5))

    def test_a_breaking_by_which_the_chain_is_not_below_0(self):
        self.spoiled(3, made(5, 5), made(5, 3), made(4, 4), made(Fraction(4 * LONG + 1, LONG), 4))

    def test_a_chain_that_is_none(self):
        self.spoiled(4, (), (0,), (1,), (1, 0), (0, 1, 0), (0, 1, 0, 1), (0, 0), (0, 2), (2,), (-1,), (0, -1), (-2, -1),
                     (0, 1, 2), (16, 17), [0, 1], None, 0, "01", "", (False, True), (0, True), ("0", "1"), (None,),
                     ((0, 1), (1, 1)), {0: 1}, (0, 1.0))

    def test_a_chain_whose_sum_is_not_below_0(self):
        assembly = boxed(3, 6)
        assembly.lies(("box", "left"), ("box", "left"))
        good = self.good()
        self.held(True, assembly, good)
        for chain in ((2,), (3,)):
            self.held(False, assembly, good[:4] + (chain,))
        self.held(False, assembly, good[:4] + ((0, 2, 1),))

    def test_of_another_assembly(self):
        self.held(True, boxed("9/2", 5), self.good())
        self.held(False, boxed("46/10", 5), self.good())
        self.held(False, boxed(3, "49/10"), self.good())
        other = Assembly([bar("box", 4, 5), bar("lid", 3, 6)])
        other.within(("lid", "left"), ("lid", "right"), ("box", "left"), ("box", "right"))
        self.held(False, other, self.good())
        turned = Assembly([bar("box", 4, 5), bar("pin", 3, 6)])
        turned.within(("box", "left"), ("box", "right"), ("pin", "left"), ("pin", "right"))
        self.held(False, turned, self.good())
        self.held(False, Assembly([bar("box", 4, 5), bar("pin", 3, 6)]), self.good())


class AnyVerdictTest(VerdictTest):
    def test_other_words_and_lengths(self):
        good = ("some", made(5, "9/2"), {BOX: ZERO, PIN: HALF}, made("9/2", 5), (0, 1))
        self.held(True, boxed(3, 6), good)
        for verdict in [(), ("some",), good[:4], good + ((),), ("maybe",) + good[1:], ("Some",) + good[1:], ("always",),
                        ("never",), ("always",) + good[1:], ("never",) + good[1:]]:
            self.held(False, boxed(3, 6), verdict)

    def test_papers_under_another_word(self):
        table = ((BOX, PIN), (link(BOX, PIN, 0), link(PIN, BOX, 0)))
        self.held(True, boxed(3, 4), ("always", table))
        self.held(False, boxed(3, 4), ("never", (ONE, ONE)))
        self.held(True, boxed(6, 7), ("never", (ONE, ONE)))

    def test_what_is_let_pass_is_so(self):
        chance = random.Random(70)
        words, others = [], []
        for k in range(300):
            assembly = random_assembly(chance)
            gaps, stock = assembly.gaps(), assembly.stock()
            verdict = verdict_by_tools(assembly)
            words.append(verdict[0])
            self.held(True, assembly, verdict)
            self.assertIs(verdict[0] == "always", always_goes_together(gaps, stock))
            if verdict[0] == "never":
                makings = stock.corners() + [random_making(chance, stock)]
                self.assertFalse(any(goes_together(gaps, making) for making in makings))
            if verdict[0] == "some":
                self.assertEqual(sorted(verdict[2]), sorted(set(nodes_of(gaps) + [BOX])))
                self.assertTrue(goes_together(gaps, verdict[1]))
                self.assertFalse(goes_together(gaps, verdict[3]))
            others.append((assembly, verdict))
        self.assertGreater(min(words.count(word) for word in ("always", "never", "some")), 20)
        self.pass_on(chance, others)

    def pass_on(self, chance, others):
        """A verdict of another assembly is let pass only where this one's own is of the same word."""
        for assembly, own in others:
            for k in range(12):
                verdict = chance.choice(others)[1]
                if verdict_holds(assembly, verdict):
                    self.assertEqual(verdict[0], own[0])

    def test_a_making_and_a_breaking_by_least_places(self):
        assembly = boxed(3, 6)
        gaps, stock = assembly.gaps(), assembly.stock()
        makings = stock.corners()
        for making in makings:
            for breaking in makings:
                for chain in chains_of(gaps):
                    goes = goes_together(gaps, making) and is_less(sum_at(chain_sum(gaps, chain), breaking), ZERO)
                    places = least_places(gaps, making) if goes_together(gaps, making) else {BOX: ZERO, PIN: ZERO}
                    self.held(goes, assembly, ("some", making, places, breaking, chain))


if __name__ == "__main__":
    unittest.main()
