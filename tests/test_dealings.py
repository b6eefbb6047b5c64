import copy
import itertools
import random
import unittest
from fractions import Fraction

from fitwhatever.assemblies import Assembly
from fitwhatever.dealings import cheapest, dealings_many, dealt, price_of
from fitwhatever.errors import NoDealing, TooMany
from fitwhatever.parts import Part
from fitwhatever.stocks import Size
from fitwhatever.verdicts import verdict_of
from helpers import (
    HALF, ONE, ZERO, always_goes_together, boxed, moved, number, place, put_rows, random_assembly, shuffled, six_parts)

STEP = (ZERO, ONE, 2)


def step(least, most, price):
    return (number(least), number(most), price)


def all_dealings(menus):
    """All dealings, names rising, the lesser step first."""
    names = sorted(menus)
    return [dict(zip(names, steps)) for steps in itertools.product(*[range(len(menus[name])) for name in names])]


def menus_by_chance(chance, assembly):
    """Menus of some sizes of the assembly, with steps near their own bounds."""
    menus = {}
    for size in assembly.stock().sizes():
        if chance.randrange(4):
            least, most = Fraction(*size.least), Fraction(*size.most)
            steps = []
            for k in range(chance.randrange(1, 4)):
                ends = sorted(least + (most - least) * Fraction(chance.randrange(-1, 6), 4) for j in range(2))
                steps.append(step(*ends, chance.randrange(4)))
            menus[size.name] = tuple(steps)
    return menus


def cheapest_by_all(assembly, menus):
    """The cheapest dealing by trying all; None where none always goes together."""
    best = None
    for dealing in all_dealings(menus):
        told = assembly
        for name, k in dealing.items():
            told = told.with_bounds(name, *menus[name][k][:2])
        price = sum(menus[name][k][2] for name, k in dealing.items())
        if (best is None or price < best[0]) and always_goes_together(told.gaps(), told.stock()):
            best = (price, dealing)
    return best


class DealingTest(unittest.TestCase):
    def refused(self, error, ask, *handed):
        before = copy.deepcopy([part for part in handed if not isinstance(part, Assembly)])
        with self.assertRaises(error) as caught:
            ask(*handed)
        self.assertIs(type(caught.exception), error)
        self.assertEqual([part for part in handed if not isinstance(part, Assembly)], before)

    def menus(self):
        """Steps for the pin and the box of boxed."""
        return {"pin.wide": (step(3, "9/2", 1), step(3, 4, 5), step(4, "9/2", 0)),
                "box.wide": (step(4, 5, 0), step("9/2", 5, 3))}


class BadMenusTest(DealingTest):
    def bad_menus(self):
        good = self.menus()
        for steps in [(), [STEP], (STEP,) * 9, None, 7, "step", STEP, {0: STEP}, (None,), ([ZERO, ONE, 2],),
                      (STEP[:2],), (STEP + (0,),), ((),), (STEP, ()), ((ONE, ZERO, 2),), (STEP, (ONE, ZERO, 2)),
                      ((ZERO, ONE, -1),), ((ZERO, ONE, True),), ((ZERO, ONE, False),), ((ZERO, ONE, ONE),),
                      ((ZERO, ONE, None),), ((ZERO, ONE, "2"),), ((ZERO, ONE, 2.0),), ((0, ONE, 2),), ((ZERO, 1, 2),),
                      (((2, 2), (3, 1), 2),), ((ZERO, (2, 4), 2),), ((ZERO, (1, 0), 2),), ((ZERO, (1, -1), 2),),
                      ((ZERO, (True, 1), 2),), ((ZERO, (1, 1, 1), 2),), (([0, 1], ONE, 2),), ((None, ONE, 2),)]:
            yield {"pin.wide": steps}
            yield {**good, "pin.wide": steps}
        for name in (7, None, True, ("pin", "wide")):
            yield {name: (STEP,)}
        for menus in (None, [], (), [("pin.wide", (STEP,))], "pin.wide", 7):
            yield menus

    def test_all_refuse(self):
        for menus in self.bad_menus():
            self.refused(NoDealing, dealings_many, menus)
            for dealing in ({"pin.wide": 0}, {"pin.wide": 0, "box.wide": 0}, {}):
                self.refused(NoDealing, price_of, menus, dealing)
                self.refused(NoDealing, dealt, boxed(3, 4), menus, dealing)
            self.refused(NoDealing, cheapest, boxed(3, 4), menus)

    def test_names_that_are_no_sizes(self):
        part = Part("pin", [Size("wide", (3, 1), (4, 1), [("off", ZERO, "fixed")])])
        assembly = Assembly([part])
        for name in ("wide", "pin.off", "pin", "off", "pin.none", "lid.wide", "pin.wide.", ".wide", "none", ""):
            for menus in ({name: (STEP,)}, {name: (STEP,), "pin.wide": (STEP, STEP)}):
                dealing = dict.fromkeys(menus, 0)
                self.assertEqual(dealings_many(menus), len(menus))
                self.assertEqual(price_of(menus, dealing), 2 * len(menus))
                self.refused(NoDealing, dealt, assembly, menus, dealing)
                self.refused(NoDealing, cheapest, assembly, menus)
        self.assertEqual(cheapest(assembly, {"pin.wide": (STEP,)}), (2, {"pin.wide": 0}))


class DealingsManyTest(DealingTest):
    def test_by_hand(self):
        for menus, many in [({}, 1), ({"a": (STEP,)}, 1), ({"a": (STEP,) * 8}, 8), (self.menus(), 6),
                            ({"a": (STEP,) * 8, "b": (STEP,) * 7, "c": (STEP,)}, 56),
                            (dict.fromkeys("abcd", (STEP,) * 8), 4096), (dict.fromkeys("abcde", (STEP,) * 8), 32768),
                            (dict.fromkeys("abcdefghijkl", (STEP,) * 2), 4096)]:
            before = copy.deepcopy(menus)
            self.assertEqual(dealings_many(menus), many)
            self.assertEqual(menus, before)

    def test_steps_at_the_edges(self):
        for steps in [(step(1, 1, 0),), (step("-7/2", "-7/2", 10 ** 17),), (step(-1, 1, 0), step(-1, 1, 0))]:
            self.assertEqual(dealings_many({"a": steps}), len(steps))


class PriceOfTest(DealingTest):
    def test_by_hand(self):
        self.assertEqual(price_of({}, {}), 0)
        for pin, box, price in [(0, 0, 1), (1, 0, 5), (2, 0, 0), (0, 1, 4), (1, 1, 8), (2, 1, 3)]:
            menus, dealing = self.menus(), {"box.wide": box, "pin.wide": pin}
            self.assertEqual(price_of(menus, dealing), price)
            self.assertEqual((menus, dealing), (self.menus(), {"box.wide": box, "pin.wide": pin}))
        self.assertEqual(price_of({"a": (STEP,) * 8}, {"a": 7}), 2)

    def test_no_dealing(self):
        for dealing in [{}, {"pin.wide": 0}, {"box.wide": 0}, {"pin.wide": 0, "box.wide": 0, "lid.wide": 0},
                        {"pin.wide": 0, "lid.wide": 0}, {"pin.wide": 3, "box.wide": 0}, {"pin.wide": 0, "box.wide": 2},
                        {"pin.wide": -1, "box.wide": 0}, {"pin.wide": True, "box.wide": 0},
                        {"pin.wide": 0, "box.wide": False}, {"pin.wide": None, "box.wide": 0},
                        {"pin.wide": "0", "box.wide": 0}, {"pin.wide": ZERO, "box.wide": 0},
                        {"pin.wide": 0.0, "box.wide": 0}, None, [], [0, 0], (0, 0), "pin.wide", 0,
                        [("pin.wide", 0), ("box.wide", 0)], ["pin.wide", "box.wide"]]:
            self.refused(NoDealing, price_of, self.menus(), dealing)
            self.refused(NoDealing, dealt, boxed(3, 4), self.menus(), dealing)
        for dealing in ({"a": 0}, None, []):
            self.refused(NoDealing, price_of, {}, dealing)
            self.refused(NoDealing, dealt, boxed(3, 4), {}, dealing)


class DealtTest(DealingTest):
    def test_bounds(self):
        for dealing in all_dealings(self.menus()):
            assembly, menus = boxed(3, 6), self.menus()
            before = (assembly.rows(), assembly.gaps(), assembly.stock().corners())
            told = dealt(assembly, menus, dict(dealing))
            for size in told.stock().sizes():
                self.assertEqual((size.least, size.most), menus[size.name][dealing[size.name]][:2])
            self.assertEqual((told.rows(), told.gaps()), before[:2])
            self.assertEqual((assembly.rows(), assembly.gaps(), assembly.stock().corners()), before)
            self.assertEqual(menus, self.menus())

    def test_a_new_assembly(self):
        for menus, dealing in [({}, {}), ({"pin.wide": (step(3, 4, 1),)}, {"pin.wide": 0})]:
            assembly = boxed(3, 4)
            told = dealt(assembly, menus, dealing)
            told.ahead(("box", "left"), ("box", "right"))
            self.assertEqual((len(assembly.gaps()), len(told.gaps())), (2, 3))
            assembly.lies(("box", "left"), ("box", "left"))
            self.assertEqual((len(assembly.gaps()), len(told.gaps())), (4, 3))
            self.assertEqual(told.stock().names(), assembly.stock().names())

    def test_shifts_and_faces_stay(self):
        part = Part("pin", [Size("wide", (3, 1), (4, 1), [("off", HALF, "big")]), Size("low", ZERO, ONE)])
        part.put_face("a", "y", None, place(1, ("off", 1)))
        told = dealt(Assembly([part]), {"pin.wide": (step(1, 2, 0), step(7, 9, 0))}, {"pin.wide": 1})
        sizes = told.stock().sizes()
        self.assertEqual([(size.name, size.least, size.most, size.shifts) for size in sizes],
                         [("pin.wide", (7, 1), (9, 1), (("pin.off", HALF, "big"),)), ("pin.low", ZERO, ONE, ())])
        self.assertEqual(told.parts()[0].faces(), part.faces())


class CheapestTest(DealingTest):
    def told(self, assembly, menus):
        """The cheapest dealing, held against the words of 20."""
        before = copy.deepcopy((menus, assembly.rows(), assembly.gaps(), assembly.stock().corners()))
        told = cheapest(assembly, menus)
        self.assertEqual((menus, assembly.rows(), assembly.gaps(), assembly.stock().corners()), before)
        self.assertEqual([type(told), type(told[0]), type(told[1])], [tuple, int, dict])
        self.assertEqual(price_of(menus, told[1]), told[0])
        self.assertEqual(verdict_of(dealt(assembly, menus, told[1]))[0], "always")
        return told

    def test_by_hand(self):
        # A pin of up to 9/2 needs the wider box, which is dearer than no step and cheaper than the narrow pin.
        self.assertEqual(self.told(boxed(3, 6), self.menus()), (3, {"box.wide": 1, "pin.wide": 2}))
        menus = self.menus()
        menus["box.wide"] = menus["box.wide"][:1]
        self.assertEqual(self.told(boxed(3, 6), menus), (5, {"box.wide": 0, "pin.wide": 1}))
        self.assertEqual(self.told(boxed(3, "9/2"), {"box.wide": self.menus()["box.wide"]}), (3, {"box.wide": 1}))

    def test_no_menus(self):
        self.assertEqual(self.told(boxed(3, 4), {}), (0, {}))
        self.refused(NoDealing, cheapest, boxed(3, 5), {})
        self.refused(NoDealing, cheapest, boxed(6, 7), {})

    def test_a_step_may_be_wider_than_the_bounds(self):
        self.assertEqual(self.told(boxed(6, 7), {"box.wide": (step(4, 9, 0), step(7, 20, 8))}), (8, {"box.wide": 1}))
        self.refused(NoDealing, cheapest, boxed(3, 4), {"box.wide": (step(3, 9, 0),)})

    def test_one_to_eight_steps(self):
        for many in range(1, 9):
            steps = tuple(step(4, Fraction(4 + 8 - k), 8 - k) for k in range(many))
            self.assertEqual(self.told(boxed(3, 4), {"box.wide": steps}), (9 - many, {"box.wide": many - 1}))

    def test_prices_alike(self):
        menus = {"pin.wide": (step(3, 4, 1), step(3, 4, 1), step(3, "7/2", 1)), "box.wide": (step(4, 5, 1),) * 2}
        self.assertEqual(self.told(boxed(3, 6), menus), (2, {"box.wide": 0, "pin.wide": 0}))
        # The names rise: the lesser step of the box goes first, however the menus are put.
        for names in (("pin.wide", "box.wide"), ("box.wide", "pin.wide")):
            steps = {"box.wide": (step(4, 5, 1), step("9/2", 5, 0)), "pin.wide": (step(3, "9/2", 1), step(3, 4, 0))}
            menus = {name: steps[name] for name in names}
            self.assertEqual(self.told(boxed(3, 6), menus), (0, {"box.wide": 1, "pin.wide": 1}))
            menus["box.wide"] = (step(4, 5, 1), step("9/2", 5, 1))
            self.assertEqual(self.told(boxed(3, 6), menus), (1, {"box.wide": 0, "pin.wide": 1}))
            menus["pin.wide"] = menus["pin.wide"][:1] + (step(3, 4, 1),)
            self.assertEqual(self.told(boxed(3, 6), menus), (2, {"box.wide": 0, "pin.wide": 1}))
            menus["box.wide"] = (step(4, 5, 1), step("9/2", 5, 1), step("9/2", 5, 0))
            menus["pin.wide"] = (step(5, 6, 0), step(3, "9/2", 1), step(3, 4, 0))
            self.assertEqual(self.told(boxed(3, 6), menus), (0, {"box.wide": 2, "pin.wide": 2}))

    def test_great_prices_and_no_price(self):
        menus = {"pin.wide": (step(3, 4, 10 ** 17), step(3, 4, 10 ** 17 - 1), step(3, 6, 0))}
        self.assertEqual(self.told(boxed(3, 6), menus), (10 ** 17 - 1, {"pin.wide": 1}))
        self.assertEqual(self.told(boxed(3, 6), {"pin.wide": (step(3, 4, 0),)}), (0, {"pin.wide": 0}))

    def test_rooms_hang_on_the_new_bounds(self):
        part = Part("pin", [Size("wide", (3, 1), (4, 1), [("off", ZERO, "small")])])
        part.put_face("a", "x", None, place(0))
        part.put_face("b", "x", None, place(-1, ("wide", 1), ("off", 2)))
        assembly = put_rows(Assembly([part]), [("ahead", ("pin", "a"), ("pin", "b"))])
        # At the least of wide off goes as far below 0 as the bounds are apart.
        steps = (step(3, "41/10", 0), step(3, 4, 1), step(3, "7/2", 2), step(1, 1, 3))
        self.assertEqual(self.told(assembly, {"pin.wide": steps}), (1, {"pin.wide": 1}))
        self.assertEqual(self.told(assembly, {"pin.wide": steps[:1] + steps[2:]}), (2, {"pin.wide": 1}))

    def test_against_all_dealings(self):
        chance = random.Random(100)
        found = []
        for k in range(150):
            assembly = random_assembly(chance, chance.choice(["x", "xy"]))
            menus = menus_by_chance(chance, assembly)
            slow = cheapest_by_all(assembly, menus)
            found.append(slow is not None and any(slow[1].values()))
            if slow is None:
                self.refused(NoDealing, cheapest, assembly, menus)
                continue
            self.assertEqual(self.told(assembly, menus), slow)
            self.assertEqual(cheapest(moved(chance, assembly), menus), slow)
            self.assertEqual(cheapest(shuffled(chance, assembly), menus), slow)
        self.assertGreater(found.count(True), 20)

    def test_no_cheaper_one(self):
        chance = random.Random(101)
        assembly = six_parts(1)
        menus = {}
        for size in assembly.stock().sizes():
            steps = [(Fraction(1), Fraction(2)), (Fraction(1), Fraction(5, 4)), (Fraction(7, 4), Fraction(2))]
            menus[size.name] = tuple(step(*ends, chance.randrange(9)) for ends in steps)
        self.assertEqual(dealings_many(menus), 729)
        price = self.told(assembly, menus)[0]
        cheaper = [dealing for dealing in all_dealings(menus) if price_of(menus, dealing) < price]
        self.assertGreater(len(cheaper), 5)
        for dealing in cheaper:
            self.assertNotEqual(verdict_of(dealt(assembly, menus, dealing))[0], "always")

    def twelve_sizes(self):
        part = Part("pin", [Size(name, ZERO, ONE) for name in "abcdefghijkl"])
        part.put_face("low", "x", None, place(0))
        part.put_face("top", "x", None, place(-11, *[(name, 1) for name in "abcdefghijkl"]))
        return put_rows(Assembly([part]), [("ahead", ("pin", "low"), ("pin", "top"))])

    def test_just_4096_dealings(self):
        menus = {f"pin.{name}": (step(0, 1, 0), step(1, 2, k)) for k, name in enumerate("abcdefghijkl")}
        self.assertEqual(dealings_many(menus), 4096)
        # All but the dearest one must be from 1 on.
        price, dealing = self.told(self.twelve_sizes(), menus)
        self.assertEqual((price, dealing["pin.l"], sum(dealing.values())), (55, 0, 11))
        menus["pin.a"] += (step(0, 1, 0),)
        self.assertEqual(dealings_many(menus), 6144)
        self.refused(TooMany, cheapest, self.twelve_sizes(), menus)

    def test_too_many(self):
        menus = {f"pin.{name}": (step(0, 1, 0),) * 8 for name in "abcd"}
        self.refused(NoDealing, cheapest, self.twelve_sizes(), menus)
        menus["pin.e"] = (step(0, 1, 0),)
        self.refused(NoDealing, cheapest, self.twelve_sizes(), menus)
        menus["pin.e"] = (step(0, 1, 0),) * 2
        self.refused(TooMany, cheapest, self.twelve_sizes(), menus)
        self.refused(TooMany, cheapest, Assembly(self.twelve_sizes().parts()), menus)
        # Menus that aren't as they must be go first.
        self.refused(NoDealing, cheapest, self.twelve_sizes(), {**menus, "pin.f": ()})
        self.refused(NoDealing, cheapest, self.twelve_sizes(), {**menus, "pin.none": (STEP,)})

    def test_none_always_goes_together(self):
        self.refused(NoDealing, cheapest, boxed(3, 4), {"pin.wide": (step(3, "401/100", 0), step(6, 7, 0))})
        self.refused(NoDealing, cheapest, boxed(3, 5), {"box.wide": (step(4, 5, 0),)})

    def test_told_anew(self):
        assembly, menus = boxed(3, 6), self.menus()
        told = cheapest(assembly, menus)
        told[1].clear()
        self.assertEqual(cheapest(assembly, menus), (3, {"box.wide": 1, "pin.wide": 2}))

    def test_numbers_of_eighteen_figures(self):
        nines = 10 ** 18 - 1
        little = Fraction(1, nines)
        menus = {"pin.wide": (step(3, 4 + little, 0), step(3 - little, 4, 1))}
        self.assertEqual(self.told(boxed(3, 6), menus), (1, {"pin.wide": 1}))
        menus["box.wide"] = (step(4, 5, 2), step(4 + little, 5, 1))
        self.assertEqual(self.told(boxed(3, 6), menus), (1, {"box.wide": 1, "pin.wide": 0}))


if __name__ == "__main__":
    unittest.main()
