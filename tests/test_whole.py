"""What the document promises over the whole program."""

import importlib
import inspect
import random
import unittest

from fitwhatever import errors
from fitwhatever.bins import bins_of, with_bins
from fitwhatever.chains import tight_chain
from fitwhatever.dealings import cheapest, dealt
from fitwhatever.desks import Desk
from fitwhatever.errors import FitError
from fitwhatever.gauges import gauge_of, goes_in, is_good
from fitwhatever.measures import parted_by, to_measure
from fitwhatever.numbers import is_less
from fitwhatever.places import least_places
from fitwhatever.reaches import reach_at, reach_of
from fitwhatever.sheets import read_sheet, show_sheet
from fitwhatever.verdictcheck import verdict_holds
from fitwhatever.verdicts import verdict_of
from helpers import (
    goes_together, moved, narrowed, random_assembly, random_making, shuffled, some_assembly, value_at)

SHEET = """# A shaft with a pin, in a block with a bore and a slot; a lid lies on the block.
part block
size bore 10 21/2
size slot 3 4
shift off slot fixed 1/8
face left x frame +off
face right x left +bore
face low y frame
face top y low +slot

part shaft
size wide 9 10
size pin 5/2 3
face left x frame
face right x left +wide
face low y frame
face top y frame +pin

part lid
size long 12 13
face left x frame
face right x left +long

within shaft.left shaft.right block.left block.right
within shaft.low shaft.top block.low block.top
lies lid.left block.left"""

INTERFACE = """errors: NoFit(chain); NoSheet(row)
numbers: number_of(top, bottom=1); plus(a, b); minus(a, b); times(a, b); over(a, b); is_less(a, b)
sums: sum_of(number, pairs); sum_plus(a, b); sum_minus(a, b); sum_times(a, number); sum_at(a, making); sum_called(a, word)
stocks: Size(name, least, most, shifts=None); Size.names(); Size.room(shift, value); Stock(sizes); Stock.sizes()
stocks: Stock.names(); Stock.keeps(making); Stock.corners(); Stock.lowest(a); Stock.highest(a); Stock.lowest_at(a)
stocks: Stock.highest_at(a); Stock.with_bounds(name, least, most); Stock.called(word); Stock.and_all(other)
parts: Part(name, sizes); Part.stock(); Part.put_face(name, axis, start, add); Part.faces(); Part.moved(axis, by)
assemblies: Assembly(parts); Assembly.lies(one, other); Assembly.ahead(one, other); Assembly.within(one, two, three, four)
assemblies: Assembly.stock(); Assembly.parts(); Assembly.rows(); Assembly.gaps(); Assembly.place_of(face)
assemblies: Assembly.with_bounds(name, least, most); Assembly.with_moved(part, axis, by)
chains: nodes_of(gaps); chains_of(gaps); chain_sum(gaps, chain); tight_chain(gaps, stock)
places: gap_at(gap, making, places); least_places(gaps, making)
tables: table_of(gaps, stock)
tablecheck: table_holds(gaps, stock, table)
programs: best_of(goal, rows, limits)
weighings: most_of(target, gaps, stock)
weighcheck: weighs(target, gaps, stock, weights, value); never_holds(gaps, stock, weights)
weighcheck: kept_by(gaps, stock, making, places)
verdicts: verdict_of(assembly)
verdictcheck: verdict_holds(assembly, verdict)
reaches: reach_of(assembly, one, other); reach_at(assembly, making, one, other)
dealings: dealings_many(menus); price_of(menus, dealing); dealt(assembly, menus, dealing); cheapest(assembly, menus)
bins: bin_bounds(size, many, k); with_bins(assembly, one, other, many, k, turned=False)
bins: bins_of(assembly, one, other, most, turned=False)
gauges: is_good(assembly, part, made); goes_in(assembly, part, made, piece); parting_of(assembly, part, piece)
gauges: gauge_of(assembly, part)
measures: parted_by(assembly, names); to_measure(assembly)
sheets: shown_number(number); number_in(text); read_sheet(text); show_sheet(assembly)
desks: Desk(text); Desk.ask(row)"""


def answer(desk, row):
    """A desk's answer, or the name of the refusal."""
    try:
        return desk.ask(row)
    except FitError as error:
        return type(error).__name__


def rows_for(assembly):
    """All rows that ask a desk something of this assembly, but show."""
    faces = [(part.name, axis, face) for part in assembly.parts() for face, axis, place in part.faces()]
    reaches = [f"reach {one[0]}.{one[2]} {other[0]}.{other[2]}" for one in faces for other in faces[:3]]
    return ["verdict", "tight", "measure"] + reaches + [f"gauge {part.name}" for part in assembly.parts()]


class WalkTest(unittest.TestCase):
    def test_from_a_sheet_to_answers(self):
        desk = Desk(SHEET)
        for row, told in [
                ("verdict", "always"), ("tight", "0"), ("measure", "none"), ("reach block.left shaft.left", "0 3/2"),
                ("reach lid.left block.left", "0 0"), ("reach lid.right shaft.right", "-4 -3/2"),
                ("reach block.low shaft.top", "5/2 4"), ("gauge shaft", "block.bore=10 block.slot=3 block.off=-1/8 lid.long=12"),
                ("bound shaft.wide 9 41/4", "ok"), ("verdict", "some"), ("tight", "-1/4"),
                ("measure", "block.bore shaft.wide"), ("gauge block", "shaft.wide=41/4 shaft.pin=5/2 lid.long=12"),
                ("move shaft x +wide -1/3", "ok"), ("move block y -2*slot", "ok"), ("verdict", "some"), ("tight", "-1/4"),
                ("reach block.left shaft.left", "0 3/2"), ("bound shaft.pin 5 6", "ok"), ("verdict", "never"),
                ("tight", "-3"), ("measure", "none"), ("bound shaft.pin 5/2 3", "ok"), ("bound shaft.wide 9 10", "ok"),
                ("verdict", "always")]:
            self.assertEqual(desk.ask(row), told, row)
        again = Desk(desk.ask("show"))
        self.assertEqual(again.ask("show"), desk.ask("show"))
        for row in rows_for(read_sheet(SHEET)):
            self.assertEqual(answer(again, row), answer(Desk(SHEET), row), row)

    def test_all_stages_of_one_assembly(self):
        assembly = read_sheet(SHEET).with_bounds("shaft.wide", (9, 1), (41, 4))
        verdict = verdict_of(assembly)
        self.assertEqual(verdict[0], "some")
        self.assertIs(verdict_holds(assembly, verdict), True)
        least, most = reach_of(assembly, ("block", "left"), ("shaft", "left"))
        self.assertEqual((least[0], most[0]), ((0, 1), (3, 2)))
        self.assertEqual(reach_at(assembly, most[1], ("block", "left"), ("shaft", "left"))[1], (3, 2))
        menus = {"shaft.wide": (((9, 1), (41, 4), 0), ((9, 1), (10, 1), 7)),
                 "block.bore": (((10, 1), (21, 2), 0), ((41, 4), (21, 2), 5))}
        price, dealing = cheapest(assembly, menus)
        self.assertEqual((price, dealing), (5, {"block.bore": 1, "shaft.wide": 0}))
        self.assertEqual(verdict_of(dealt(assembly, menus, dealing))[0], "always")
        # Of two bins each the bore's begin with 10 and 41/4, and the shaft's end with 77/8 and 41/4.
        self.assertEqual(bins_of(assembly, "block.bore", "shaft.wide", 30), 2)
        for k in range(2):
            self.assertEqual(verdict_of(with_bins(assembly, "block.bore", "shaft.wide", 2, k))[0], "always")
        gauge = gauge_of(assembly, "shaft")
        for wide, good in (((10, 1), True), ((41, 4), False)):
            made = {"shaft.wide": wide, "shaft.pin": (3, 1)}
            self.assertIs(is_good(assembly, "shaft", made), good)
            self.assertIs(goes_in(assembly, "shaft", made, gauge), good)
        self.assertEqual(to_measure(assembly), ["block.bore", "shaft.wide"])
        self.assertIsNone(parted_by(assembly, ["shaft.wide", "block.bore"]))
        self.assertIsNotNone(parted_by(assembly, ["shaft.wide"]))


class PromiseTest(unittest.TestCase):
    def test_moved_and_in_another_order(self):
        chance = random.Random(150)
        for k in range(60):
            maker = some_assembly if chance.randrange(3) else random_assembly
            assembly = maker(chance, chance.choice(["x", "xy"]))
            desk, other = Desk(show_sheet(assembly)), Desk(show_sheet(moved(chance, assembly)))
            turned = Desk(show_sheet(shuffled(chance, assembly)))
            for row in rows_for(assembly):
                self.assertEqual(answer(other, row), answer(desk, row), row)
                if row == "measure":
                    self.assertEqual(sorted(turned.ask(row).split(" ")), sorted(desk.ask(row).split(" ")))
                elif not row.startswith("gauge"):
                    self.assertEqual(answer(turned, row), answer(desk, row), row)

    def test_moved_by_a_desk(self):
        chance = random.Random(151)
        for k in range(30):
            assembly = random_assembly(chance, "xy")
            desk = Desk(show_sheet(assembly))
            told = [answer(desk, row) for row in rows_for(assembly)]
            for part in assembly.parts():
                terms = "".join(f" {chance.choice('+-')}{chance.randrange(9)}*{name}" for name in part.stock().names())
                desk.ask(f"move {part.name} {chance.choice('xy')} {chance.choice('+-')}7/3{terms}")
            self.assertEqual([answer(desk, row) for row in rows_for(assembly)], told)

    def test_narrower_bounds(self):
        chance = random.Random(152)
        kept = 0
        while kept < 40:
            assembly = random_assembly(chance, "xy")
            if assembly.rows() and verdict_of(assembly)[0] == "always":
                kept += 1
                self.assertEqual(verdict_of(narrowed(chance, assembly))[0], "always")

    def test_tight_and_reach_of_any_making(self):
        chance = random.Random(153)
        for k in range(60):
            assembly = some_assembly(chance, chance.choice(["x", "xy"]))
            gaps, stock = assembly.gaps(), assembly.stock()
            tight = tight_chain(gaps, stock)
            face = (assembly.parts()[0].name, "a")
            axis = assembly.place_of(face)[0][0]
            other = chance.choice([(part.name, name) for part in assembly.parts() for name, own, place in part.faces()
                                   if own == axis])
            least, most = reach_of(assembly, face, other)
            for making in [random_making(chance, stock) for j in range(4)] + stock.corners()[:4]:
                self.assertGreaterEqual(sum(value_at(gaps[k][2], making) for k in tight[0]) * tight[1][1], tight[1][0])
                if goes_together(gaps, making):
                    least_places(gaps, making)
                    low, high = reach_at(assembly, making, face, other)
                    self.assertEqual((low is None, high is None), (least is None, most is None))
                    self.assertFalse(low is not None and is_less(low, least[0]))
                    self.assertFalse(high is not None and is_less(most[0], high))


class FormTest(unittest.TestCase):
    def test_no_refusal_stands_under_another_one(self):
        refusals = [value for value in vars(errors).values() if isinstance(value, type) and value is not FitError]
        self.assertEqual(len(refusals), 14)
        for refusal in refusals:
            self.assertEqual(refusal.__bases__, (FitError,))
        self.assertEqual(FitError.__bases__, (ValueError,))

    def test_names_and_arguments(self):
        for row in INTERFACE.split("\n"):
            module, names = row.split(": ")
            for told in names.split("; "):
                found = importlib.import_module("fitwhatever." + module)
                for name in told.split("(")[0].split("."):
                    found = getattr(found, name)
                arguments = [name for name in str(inspect.signature(found))[1:-1].split(", ") if name and name != "self"]
                self.assertEqual(f"{told.split('(')[0]}({', '.join(arguments)})", told)


if __name__ == "__main__":
    unittest.main()
