import unittest

from fitwhatever.desks import Desk
from fitwhatever.errors import NoFace, NoFit, NoJoint, NoPart, NoRow, NoSheet, NoSize, TooMany
from fitwhatever.sheets import show_sheet
from helpers import boxed, six_parts
from test_sheets import BAD_NUMBERS

LID = """part lid
size wide 1 2
shift off wide big 1/2
face low x frame +wide +off
face top y frame -3
part box
size wide 4 5
face left x frame
face right x left +wide
part pin
size wide 3 6
face left x frame
face right x left +wide
within pin.left pin.right box.left box.right
lies lid.low box.right"""

RACK = """part rack
size off 0 3
face zero x frame
face least x zero +2 +off
face most x zero +6 +off
part pin
size wide 0 10
face left x frame
face right x left +wide
lies pin.left rack.zero
ahead rack.least pin.right
ahead pin.right rack.most"""


class DeskTest(unittest.TestCase):
    def desk(self, least=3, most="9/2"):
        """A desk with a pin of this width in a box from 4 to 5."""
        return Desk(show_sheet(boxed(least, most)))

    def answers(self, desk, *pairs):
        for row, told in pairs:
            answer = desk.ask(row)
            self.assertIs(type(answer), str)
            self.assertEqual(answer, told, row)

    def refused(self, error, desk, row):
        """A refusal of just this class, which changes nothing."""
        before = desk.ask("show")
        with self.assertRaises(error) as caught:
            desk.ask(row)
        self.assertIs(type(caught.exception), error, row)
        self.assertEqual(desk.ask("show"), before)
        return caught.exception


class AnswersTest(DeskTest):
    def test_verdict(self):
        for least, most, told in [(3, 4, "always"), (3, 5, "some"), (6, 7, "never")]:
            self.answers(self.desk(least, most), ("verdict", told))
        self.answers(Desk("part a"), ("verdict", "always"))

    def test_tight(self):
        for least, most, told in [(3, 4, "0"), (3, "9/2", "-1/2"), (-1, 1, "3"), (6, 7, "-3"), ("-9/2", "-9/2", "17/2")]:
            self.answers(self.desk(least, most), ("tight", told))
        self.answers(Desk("part a"), ("tight", "none"))
        self.answers(Desk("part a\nface f x frame\npart b\nface f x frame\nahead a.f b.f"), ("tight", "none"))
        self.answers(Desk("part a\nface f x frame\nahead a.f a.f"), ("tight", "0"))

    def test_reach(self):
        self.answers(self.desk(), ("reach box.left pin.left", "0 2"), ("reach pin.left box.left", "-2 0"),
                     ("reach pin.left pin.left", "0 0"), ("reach pin.left pin.right", "3 9/2"),
                     ("reach pin.right pin.left", "-9/2 -3"))
        free = Desk("part a\nsize w 1/3 1\nface f x frame\nface g x f +w\npart b\nface f x frame\nface h y frame\nahead a.g b.f")
        self.answers(free, ("reach a.f b.f", "1/3 none"), ("reach b.f a.f", "none -1/3"), ("reach a.g b.f", "0 none"),
                     ("reach b.h b.h", "0 0"))
        self.answers(Desk("part a\nface f x frame\npart b\nface f x frame"), ("reach a.f b.f", "none none"))

    def test_gauge(self):
        self.answers(self.desk(), ("gauge pin", "box.wide=4"), ("gauge box", "pin.wide=9/2"))
        self.answers(Desk(LID), ("gauge pin", "lid.wide=1 lid.off=-1/2 box.wide=4"),
                     ("gauge box", "lid.wide=1 lid.off=-1/2 pin.wide=6"), ("gauge lid", "box.wide=4 pin.wide=6"))
        self.answers(Desk(RACK), ("gauge pin", "none"), ("gauge rack", "pin.wide=0"))
        self.answers(Desk("part a\nsize w 1 2"), ("gauge a", ""))
        self.answers(Desk("part a\nsize w 1 2\npart b"), ("gauge a", ""), ("gauge b", "a.w=1"))

    def test_measure(self):
        self.answers(self.desk(), ("measure", "box.wide pin.wide"))
        self.answers(self.desk(5, 5), ("measure", "box.wide"))
        self.answers(self.desk(3, 4), ("measure", "none"))
        self.answers(Desk(LID), ("measure", "box.wide pin.wide"))
        self.answers(Desk("part a"), ("measure", "none"))

    def test_show(self):
        self.answers(self.desk(), ("show", show_sheet(boxed(3, "9/2"))))
        self.answers(Desk("# nothing\n\npart a\nface f x frame\nface g x f +0\n"),
                     ("show", "part a\nface f x frame\nface g x frame"))

    def test_six_parts(self):
        for room in (2, 1, -1):
            desk = Desk(show_sheet(six_parts(room)))
            self.assertIn(desk.ask("verdict"), ("always", "some", "never"))
            self.assertEqual(desk.ask("show"), show_sheet(six_parts(room)))

    def test_asking_changes_nothing(self):
        desk = Desk(LID)
        rows = ["verdict", "tight", "reach box.left pin.left", "gauge pin", "measure", "show"]
        told = [desk.ask(row) for row in rows]
        for row in rows[::-1]:
            desk.ask(row)
        self.assertEqual([desk.ask(row) for row in rows], told)


class ChangesTest(DeskTest):
    def test_bound(self):
        desk = self.desk()
        self.answers(desk, ("verdict", "some"), ("bound pin.wide 3 4", "ok"), ("verdict", "always"), ("tight", "0"),
                     ("measure", "none"), ("gauge box", "pin.wide=3"), ("reach pin.left pin.right", "3 4"),
                     ("show", show_sheet(boxed(3, 4))), ("bound pin.wide -7/2 13/2", "ok"), ("tight", "-5/2"),
                     ("bound box.wide 6 6", "ok"), ("tight", "-1/2"), ("bound pin.wide 7 8", "ok"), ("verdict", "never"))
        self.assertEqual(Desk(desk.ask("show")).ask("show"), desk.ask("show"))

    def test_shifts_stay(self):
        desk = Desk(LID)
        self.answers(desk, ("bound lid.wide 1 1", "ok"), ("gauge pin", "lid.wide=1 lid.off=-1/2 box.wide=4"))
        self.assertIn("size wide 1 1\nshift off wide big 1/2", desk.ask("show"))

    def test_move(self):
        desk = self.desk()
        rows = ["verdict", "tight", "reach box.left pin.left", "reach box.left pin.right", "gauge pin", "gauge box", "measure"]
        told = [desk.ask(row) for row in rows]
        self.answers(desk, ("move pin x +3 -1/2*wide", "ok"))
        self.assertEqual([desk.ask(row) for row in rows], told)
        self.assertEqual(desk.ask("show").split("\n")[6:8], ["face left x frame +3 -1/2*wide", "face right x frame +3 +1/2*wide"])
        self.answers(desk, ("move pin y +7", "ok"), ("move box x", "ok"), ("move pin x -3 +1/2*wide", "ok"),
                     ("show", show_sheet(boxed(3, "9/2"))))
        self.answers(desk, ("move box x" + " +1" * 13, "ok"), ("reach box.left pin.left", "0 2"))
        self.assertEqual(desk.ask("show").split("\n")[2], "face left x frame +13")

    def test_move_one_axis_alone(self):
        desk = Desk("part a\nsize w 1 2\nface f x frame\nface g y frame\nface h x f +1")
        self.answers(desk, ("move a y -w", "ok"),
                     ("show", "part a\nsize w 1 2\nface f x frame\nface g y frame -w\nface h x frame +1"),
                     ("move a x +2*w", "ok"),
                     ("show", "part a\nsize w 1 2\nface f x frame +2*w\nface g y frame -w\nface h x frame +1 +2*w"))

    def test_each_desk_by_itself(self):
        one, other = self.desk(), self.desk()
        self.answers(one, ("bound pin.wide 3 4", "ok"))
        self.answers(other, ("verdict", "some"))
        self.answers(one, ("verdict", "always"))


class RefusedTest(DeskTest):
    def test_no_sheet(self):
        for text, row in [("", 2), ("nothing", 1), ("part a\npart a", 2), ("#\n", 3), ("part a\n\nlies a.f a.f", 3)]:
            with self.assertRaises(NoSheet) as caught:
                Desk(text)
            self.assertEqual(caught.exception.row, row)

    def test_other_rows(self):
        for row in ["", " ", "nothing", "Verdict", "VERDICT", "verdicts", "verdict ", " verdict", "verdict pin", "verdict\n",
                    "\nverdict", "tight box", "tight ", "reach", "reach pin.left", "reach pin.left box.left pin.right",
                    "reach  pin.left box.left", "reach pin.left  box.left", "reach pin.left box.left ", "gauge",
                    "gauge pin box", "gauge ", "gauge  pin", "measure pin", "measure ", "show pin", "show\n", "show show",
                    "bound", "bound pin.wide", "bound pin.wide 3", "bound pin.wide 3 4 5", "bound pin.wide  3 4",
                    "bound pin.wide 3 4 ", "move", "move pin", "move ", "move pin x ", "move pin x  +3", "move  pin x",
                    "# verdict", "#", "part lid", "size wide 3 4", "face top x frame", "lies pin.left box.left",
                    "ahead pin.left box.left", "within pin.left pin.right box.left box.right", "verdict\nverdict", "ok",
                    "reach pin.left box.left\nshow", "help", "quit", "always", "none", "cheapest", "bins"]:
            self.refused(NoRow, self.desk(), row)

    def test_what_is_no_text(self):
        for row in (None, 7, True, ["verdict"], ("verdict",), {"verdict": 1}, b"verdict", (1, 2)):
            self.refused(NoRow, self.desk(), row)

    def test_words_of_no_form(self):
        for word in ("pin", "left", "pin.", ".left", ".", "", "pin.left.left", "pin..left", "PIN.left", "pin.Left", "pin.left1",
                     "pin-left", "pin/left", "abcdefghi.left", "pin.abcdefghi", "1", "pin,left"):
            self.refused(NoRow, self.desk(), f"reach {word} box.left")
            self.refused(NoRow, self.desk(), f"reach box.left {word}")
            self.refused(NoRow, self.desk(), f"bound {word} 3 4")
        for word in ("Pin", "pin.left", "pin1", "abcdefghi", "", "1", "+pin", "pin.", "*"):
            self.refused(NoRow, self.desk(), f"gauge {word}")
            self.refused(NoRow, self.desk(), f"move {word} x +3")
        for word in ("z", "X", "Y", "xy", "", "pin", "1", "frame", "+3"):
            self.refused(NoRow, self.desk(), f"move pin {word} +3")
            self.refused(NoRow, self.desk(), f"move pin {word}")
        for word in BAD_NUMBERS:
            self.refused(NoRow, self.desk(), f"bound pin.wide {word} 4")
            self.refused(NoRow, self.desk(), f"bound pin.wide -4 {word}")
        for term in ("3", "wide", "+", "-", "++3", "+-3", "+3*", "+*wide", "+wide*3", "+2/4", "+3/1*wide", "+03", "+-1*wide",
                     "+Wide", "+pin.wide", "+abcdefghi", "+" + "9" * 19, "", "+3 ", "+0.5", "+1/0", "x"):
            self.refused(NoRow, self.desk(), f"move pin x {term}")
            self.refused(NoRow, self.desk(), f"move pin x +1 {term} -1")
        self.refused(NoRow, self.desk(), "move pin x" + " +1" * 14)

    def test_forms_go_first(self):
        # What is in no form is refused ahead of what isn't there.
        for row in ("reach none.left Pin.left", "reach none.left box", "bound none.wide 3 x", "bound none.wide 03 4",
                    "bound pin.none 4 3/1", "move none z +3", "move none x 3", "move pin x +none +3/1", "gauge None"):
            self.refused(NoRow, self.desk(), row)

    def test_reach_refused(self):
        for word in ("pin.none", "none.left", "left.pin", "pin.wide", "pin.frame"):
            self.refused(NoFace, self.desk(), f"reach {word} box.left")
            self.refused(NoFace, self.desk(), f"reach box.left {word}")
            self.refused(NoFace, self.desk(6, 7), f"reach box.left {word}")
        self.refused(NoJoint, Desk(LID), "reach lid.top box.left")
        self.refused(NoJoint, Desk(LID), "reach lid.low lid.top")
        self.assertIsNone(self.refused(NoFit, self.desk(6, 7), "reach box.left pin.left").chain)

    def test_gauge_refused(self):
        for part in ("none", "wide", "left", "frame"):
            self.refused(NoPart, self.desk(), f"gauge {part}")
        many = "\n".join(["part a", "part b"] + [f"size {name} 1 2" for name in "abcdefghijk"])
        self.refused(TooMany, Desk(many), "gauge a")
        self.refused(NoPart, Desk(many), "gauge c")
        self.answers(Desk(many), ("gauge b", ""))

    def test_bound_refused(self):
        for row in ("bound pin.none 3 4", "bound none.wide 3 4", "bound pin.left 3 4", "bound wide.pin 3 4",
                    "bound pin.wide 4 3", "bound pin.wide 1/2 1/3"):
            self.refused(NoSize, self.desk(), row)
        self.refused(NoSize, Desk(LID), "bound lid.off 0 1")

    def test_move_refused(self):
        for row in ("move none x +3", "move none x", "move left x +3", "move none x +none"):
            self.refused(NoPart, self.desk(), row)
        for row in ("move pin x +none", "move pin y +left", "move pin x +3 -2*box", "move box x +off"):
            self.refused(NoFace, self.desk(), row)

    def test_a_desk_goes_on_behind_a_refusal(self):
        desk = self.desk()
        self.refused(NoSize, desk, "bound pin.wide 4 3")
        self.refused(NoRow, desk, "nothing")
        self.answers(desk, ("bound pin.wide 3 4", "ok"), ("verdict", "always"))
        self.refused(NoFace, desk, "move pin x +none")
        self.answers(desk, ("verdict", "always"), ("show", show_sheet(boxed(3, 4))))


if __name__ == "__main__":
    unittest.main()
