import random
import unittest
from fractions import Fraction

from fitwhatever.assemblies import Assembly
from fitwhatever.errors import NoNumber, NoSheet
from fitwhatever.parts import Part
from fitwhatever.sheets import number_in, read_sheet, show_sheet, shown_number
from fitwhatever.stocks import Size
from helpers import HALF, ONE, WAYS, ZERO, boxed, moved, number, place, put_rows, random_assembly, six_parts

NINES = 10 ** 18 - 1

SHEET = """# A pin in a box.
part box
size wide 4 5
shift off wide big 1/2

face left x frame
face right x left +wide
part pin
size wide -7/2 9/2
face left x frame +3 -wide +1/2*wide
face right x left +0
face top y frame -1/2
lies pin.left pin.right
ahead box.left pin.right
within pin.left pin.right box.left box.right"""

SHOWN = """part box
size wide 4 5
shift off wide big 1/2
face left x frame
face right x frame +wide
part pin
size wide -7/2 9/2
face left x frame +3 -1/2*wide
face right x frame +3 -1/2*wide
face top y frame -1/2
lies pin.left pin.right
ahead box.left pin.right
within pin.left pin.right box.left box.right"""

BAD_NUMBERS = ["", " ", "-", "+7", "--7", "-0", "00", "01", "-01", "007", "7.", "7.0", "0.5", ".5", "1e3", "7 ", " 7", "7\n",
               "1_0", "1,0", "/", "7/", "/2", "-/2", "7/1", "-7/1", "0/1", "0/2", "-0/2", "7/0", "2/4", "-2/4", "4/2",
               "7/02", "7/-2", "7/+2", "1/2/3", "1//2", "1 /2", "1/ 2", "1/2 ", "a", "x7", "7x", "0x7", "one", "7*2", "(7)",
               "inf", "nan", "10/5", "1" + "0" * 18, "-1" + "0" * 18, "1/1" + "0" * 18, "9" * 19, "9" * 19 + "/2",
               "3/" + "9" * 19, "9" * 30, "0" * 18, "3/3", "-3/3"]


def facts(assembly):
    """All that an assembly tells."""
    parts = [(part.name, [(size.name, size.least, size.most, size.shifts) for size in part.stock().sizes()],
              part.faces()) for part in assembly.parts()]
    return (parts, assembly.rows(), assembly.gaps())


class NumberTest(unittest.TestCase):
    def test_both_ways(self):
        for text, value in [("0", 0), ("7", 7), ("-7", -7), ("10", 10), ("-7/2", Fraction(-7, 2)), ("1/2", Fraction(1, 2)),
                            ("9" * 18, NINES), ("-" + "9" * 18, -NINES), ("100", 100), ("22/7", Fraction(22, 7)),
                            ("1/" + "9" * 18, Fraction(1, NINES)), ("-1/10", Fraction(-1, 10)), ("20/3", Fraction(20, 3)),
                            ("1" + "0" * 17, 10 ** 17), ("9" * 18 + "/2", Fraction(NINES, 2))]:
            self.assertEqual(number_in(text), number(value))
            self.assertEqual(shown_number(number(value)), text)

    def test_numbers_by_chance(self):
        chance = random.Random(140)
        for k in range(300):
            most = 10 ** chance.randrange(1, 19)
            value = number(Fraction(chance.randrange(-most + 1, most), chance.randrange(1, most)))
            self.assertEqual(number_in(shown_number(value)), value)
            self.assertEqual(shown_number(value), str(Fraction(*value)))

    def test_no_number(self):
        for text in BAD_NUMBERS + [None, 7, ONE, ["7"], True, b"7", "\u0667", "\u00b2", "\uff17"]:
            with self.assertRaises(NoNumber) as caught:
                number_in(text)
            self.assertIs(type(caught.exception), NoNumber)

    def test_long_numbers_are_shown(self):
        for value in (10 ** 18, -10 ** 40, 10 ** 3999):
            self.assertEqual(shown_number((value, 1)), str(value))
            self.assertEqual(shown_number((1 - value, abs(value))), f"{1 - value}/{abs(value)}")


class SheetTest(unittest.TestCase):
    def refused(self, row, text):
        with self.assertRaises(NoSheet) as caught:
            read_sheet(text)
        self.assertIs(type(caught.exception), NoSheet)
        self.assertEqual(caught.exception.row, row, text)

    def last_refused(self, *rows):
        """The last one of the rows is to blame: those ahead of it are read."""
        self.refused(len(rows), "\n".join(rows))
        if len(rows) > 1:
            read_sheet("\n".join(rows[:-1]))
        # It is the first one that is to blame, whatever follows.
        self.refused(len(rows), "\n".join(rows + ("nothing", "", "part lid")))


class ReadTest(SheetTest):
    def test_by_hand(self):
        box = Part("box", [Size("wide", (4, 1), (5, 1), [("off", HALF, "big")])])
        box.put_face("left", "x", None, place(0))
        box.put_face("right", "x", None, place(0, ("wide", 1)))
        pin = Part("pin", [Size("wide", (-7, 2), (9, 2))])
        pin.put_face("left", "x", None, place(3, ("wide", "-1/2")))
        pin.put_face("right", "x", None, place(3, ("wide", "-1/2")))
        pin.put_face("top", "y", None, place("-1/2"))
        left, right = ("pin", "left"), ("pin", "right")
        assembly = put_rows(Assembly([box, pin]), [("lies", left, right), ("ahead", ("box", "left"), right),
                                                   ("within", left, right, ("box", "left"), ("box", "right"))])
        self.assertEqual(facts(read_sheet(SHEET)), facts(assembly))

    def test_each_sheet_is_a_new_assembly(self):
        one, other = read_sheet(SHEET), read_sheet(SHEET)
        one.lies(("box", "left"), ("box", "left"))
        self.assertEqual((len(one.gaps()), len(other.gaps())), (7, 5))

    def test_rows_that_tell_nothing(self):
        for text in ("part a", "part a\n", "\npart a", "\n\n\npart a\n\n", "#\npart a", "# part b\npart a\n#part c", "##\npart a",
                     "#  two  blanks \npart a\n# "):
            self.assertEqual(facts(read_sheet(text)), ([("a", [], [])], [], []))
        self.refused(2, "part a\n #")
        self.refused(2, "part a\n ")
        self.refused(1, " part a")

    def test_without_parts(self):
        for text, row in [("", 2), ("\n", 3), ("#", 2), ("# part a", 2), ("#\n\n#\n", 5), ("\n\n", 4)]:
            self.refused(row, text)

    def test_other_rows(self):
        for row in ("nothing", "Part b", "PART b", "parts b", "part", "part b c", "b", "verdict", "show", "part\tb", " ", "  ",
                    "par", "part a b", "size", "shift", "face", "lies", "ahead", "within", "bound a.w 1 2", "move a x",
                    "frame", "+3", "."):
            self.last_refused("part a", row)
            self.refused(1, row)

    def test_blanks(self):
        rows = SHEET.split("\n")
        for k, row in enumerate(rows):
            if row and not row.startswith("#"):
                others = [" " + row, row + " ", row.replace(" ", "  ", 1), "  " + row, row + "  "]
                if row.count(" ") > 1:
                    at = row.rindex(" ")
                    others.append(row[:at] + " " + row[at:])
                for other in others:
                    self.refused(k + 1, "\n".join(rows[:k] + [other] + rows[k + 1:]))
            elif row:
                read_sheet("\n".join(rows[:k] + [row + "  "] + rows[k + 1:]))

    def test_parts(self):
        for name in ("a", "abcdefgh", "frame", "part", "x", "z"):
            self.assertEqual(read_sheet(f"part {name}").parts()[0].name, name)
        for name in ("", "A", "a1", "a.b", "abcdefghi", "a-b", "#", "1", "+a"):
            self.last_refused("part b", f"part {name}")
        self.last_refused("part a", "part a")
        self.last_refused("part a", "part b", "part a")
        six = tuple(f"part {name}" for name in "abcdef")
        self.assertEqual(len(read_sheet("\n".join(six)).parts()), 6)
        self.last_refused(*six, "part g")

    def test_sizes(self):
        sizes = read_sheet("part a\nsize b 3 3\nsize c -1/2 7").stock().sizes()
        self.assertEqual([(size.name, size.least, size.most, size.shifts) for size in sizes],
                         [("a.b", (3, 1), (3, 1), ()), ("a.c", (-1, 2), (7, 1), ())])
        for row in ("size b 3", "size b 3 4 5", "size b", "size B 3 4", "size a.b 3 4", "size abcdefghi 3 4", "size  3 4",
                    "size b 4 3", "size b 3 2/4", "size b x 3", "size 3 4 b", "size b 3/1 4", "size b 3 04", "size b +3 4",
                    "size b -0 4", "size b 3 " + "9" * 19, "size b 1/2 1/3", "size b1 3 4"):
            self.last_refused("part a", row)
        for text in BAD_NUMBERS:
            if "\n" not in text:
                self.last_refused("part a", f"size b {text} 4")
                self.last_refused("part a", f"size b -4 {text}")
        self.last_refused("part a", "size b 3 4", "size b 3 4")
        self.last_refused("part a", "size b 3 4", "shift c b big 0", "size c 3 4")
        self.last_refused("size b 3 4")
        self.assertEqual(read_sheet("part a\nsize b 3 4\npart c\nsize b 5 6").stock().names(), ["a.b", "c.b"])

    def test_shifts(self):
        for way in WAYS:
            size = read_sheet(f"part a\nsize b 3 4\nshift c b {way} 1/2\nshift d b {way} 0").stock().sizes()[0]
            self.assertEqual(size.shifts, (("a.c", HALF, way), ("a.d", ZERO, way)))
        for row in ("shift c b big", "shift c b big 1 1", "shift c b large 1", "shift c b Big 1", "shift c b 1 big",
                    "shift c d big 1", "shift b b big 1", "shift c a big 1", "shift c a.b big 1", "shift c b big -1",
                    "shift c b big -1/2", "shift c b big 2/4", "shift c b big x", "shift C b big 1", "shift c1 b big 1",
                    "shift abcdefghi b big 1", "shift  b big 1", "shift c  big 1", "shift c b  1", "shift c b big "):
            self.last_refused("part a", "size b 3 4", row)
        self.last_refused("part a", "shift c b big 1")
        self.last_refused("shift c b big 1")
        self.last_refused("part a", "size b 3 4", "shift c b big 1", "shift c b big 1")
        self.last_refused("part a", "size b 3 4", "shift c b big 1", "size d 1 2", "shift c d big 1")
        self.last_refused("part a", "size b 3 4", "shift c b big 1", "shift d c big 1")
        # The size must be in the part ahead, not in another one.
        self.last_refused("part a", "size b 3 4", "part d", "shift c b big 1")

    def test_shifts_anywhere_behind(self):
        text = "part a\nsize b 3 4\nface f x frame +b\nsize c 1 2\nshift d b fixed 1\nface g x f -c\nshift e c big 1\nface h x g +d -e"
        assembly = read_sheet(text)
        self.assertEqual(assembly.stock().names(), ["a.b", "a.d", "a.c", "a.e"])
        self.assertEqual(assembly.parts()[0].faces(), [
            ("f", "x", place(0, ("b", 1))), ("g", "x", place(0, ("b", 1), ("c", -1))),
            ("h", "x", place(0, ("b", 1), ("c", -1), ("d", 1), ("e", -1)))])
        # A row is looked at with the rows ahead of it alone.
        self.last_refused("part a", "size b 3 4", "face f x frame +d")
        self.refused(3, "part a\nsize b 3 4\nface f x frame +d\nshift d b fixed 1")
        self.refused(2, "part a\nface f x frame +b\nsize b 3 4")
        self.refused(2, "part a\nface f x g\nface g x frame")

    def test_twelve_names(self):
        rows = ["part a"] + [f"size {name} 1 2" for name in "abcdef"] + ["part b"]
        rows += [row for name in "abc" for row in (f"size {name} 1 2", f"shift {name * 2} {name} big 1")]
        self.assertEqual(len(read_sheet("\n".join(rows)).stock().names()), 12)
        self.last_refused(*rows, "size d 1 2")
        self.last_refused(*rows, "shift d a big 1")
        self.last_refused(*rows, "part c", "size d 1 2")
        read_sheet("\n".join(rows + ["part c", "face a x frame"]))

    def test_faces(self):
        for row in ("face", "face f", "face f x", "face f z frame", "face f X frame", "face f xy frame", "face frame x frame",
                    "face F x frame", "face f1 x frame", "face abcdefghi x frame", "face  x frame", "face f  frame",
                    "face f x ", "face f x none", "face f x Frame", "face f x f", "face f x a.g", "face g x frame",
                    "face f y g", "face f x b", "face f frame x", "face x f frame", "face f x frame frame"):
            self.last_refused("part a", "size b 3 4", "face g x frame", row)
        self.last_refused("face f x frame")
        self.last_refused("part a", "face f x frame", "part b", "face g x f")
        faces = read_sheet("part a\nface x x frame +1\nface y y frame\nface part x x +1").parts()[0].faces()
        self.assertEqual(faces, [("x", "x", place(1)), ("y", "y", place(0)), ("part", "x", place(2))])

    def terms(self, text):
        sheet = "part a\nsize wide 3 4\nshift low wide big 1\nface f x frame" + (" " + text if text else "")
        return read_sheet(sheet).parts()[0].faces()[0][2]

    def test_terms(self):
        for text, told in [("", place(0)), ("+3", place(3)), ("-3", place(-3)), ("+0", place(0)), ("-0", place(0)),
                           ("+1/2", place("1/2")), ("-7/2", place("-7/2")), ("+wide", place(0, ("wide", 1))),
                           ("-wide", place(0, ("wide", -1))), ("+1/2*low", place(0, ("low", "1/2"))),
                           ("-3*low", place(0, ("low", -3))), ("+1*low", place(0, ("low", 1))), ("+0*low", place(0)),
                           ("+3 -wide +1/2*low", place(3, ("wide", -1), ("low", "1/2"))),
                           ("+wide -wide", place(0)), ("+wide +3 +wide -1", place(2, ("wide", 2))),
                           ("+" + "9" * 18, place(NINES)), ("+" + "9" * 18 + " +1", place(10 ** 18)),
                           ("-1/" + "9" * 18 + "*wide", place(0, ("wide", Fraction(-1, NINES))))]:
            self.assertEqual(self.terms(text), told, text)

    def test_thirteen_terms(self):
        self.assertEqual(self.terms(" ".join(["+1"] * 13)), place(13))
        self.assertEqual(self.terms(" ".join(["+1", "-wide"] * 6 + ["+low"])), place(6, ("wide", -6), ("low", 1)))
        self.last_refused("part a", "face f x frame" + " +1" * 14)
        self.last_refused("part a", "face f x frame" + " +1" * 15)

    def test_no_terms(self):
        for term in ("3", "wide", "+", "-", "++3", "+-3", "-+3", "--3", "+-wide", "+3wide", "+3*", "+*wide", "+*", "*wide",
                     "+wide*3", "+3*wide*low", "+3**wide", "+3*-wide", "+3*+wide", "+3*4", "+wide*low", "+2/4", "+2/4*wide",
                     "+3/1", "+03", "+03*wide", "+" + "9" * 19, "+" + "9" * 19 + "*wide", "+3/0", "+none", "+3*none",
                     "+a.wide", "+Wide", "+3*Wide", "+wide1", "+abcdefghi", "+3.5", "+frame", "+f", "3+", "wide+", "+ 3",
                     "+3 ", "+3  -wide", "+-1/2*low", "--1/2*low", "+(3)", "#3", "+1/2 *low"):
            self.last_refused("part a", "size wide 3 4", "shift low wide big 1", f"face f x frame {term}")
            self.last_refused("part a", "size wide 3 4", "shift low wide big 1", f"face f x frame +3 {term} +wide")

    def test_rows_for_faces(self):
        parts = ("part a", "face f x frame", "face h y frame", "part b", "face g x frame")
        text = "\n".join(parts + ("lies a.f b.g", "ahead b.g a.f", "within a.f a.f b.g b.g", "lies a.h a.h"))
        self.assertEqual(read_sheet(text).rows(), [
            ("lies", ("a", "f"), ("b", "g")), ("ahead", ("b", "g"), ("a", "f")),
            ("within", ("a", "f"), ("a", "f"), ("b", "g"), ("b", "g")), ("lies", ("a", "h"), ("a", "h"))])
        for word, many in (("lies", 2), ("ahead", 2), ("within", 4)):
            for count in range(7):
                rows = parts + (" ".join([word] + ["a.f"] * count),)
                if count == many:
                    read_sheet("\n".join(rows))
                else:
                    self.last_refused(*rows)
            for face in ("a", "f", "a.g", "c.f", "f.a", ".f", "a.", ".", "a.f.f", "a..f", "A.f", "a.F", "a.frame", "a,f", "",
                         "a.h", "a.f1", "a.abcdefghi"):
                for at in range(many):
                    faces = ["a.f"] * many
                    faces[at] = face
                    self.last_refused(*parts, " ".join([word] + faces))

    def test_behind_all_parts(self):
        ahead = ("part a", "size b 3 4", "face f x frame", "lies a.f a.f")
        for row in ("part c", "size c 3 4", "shift c b big 1", "face g x frame", "face g x f +b"):
            self.last_refused(*ahead, row)
        read_sheet("\n".join(ahead + ("", "# behind", "ahead a.f a.f", "")))
        self.last_refused("lies a.f a.f")
        self.last_refused("part a", "lies a.f a.f")

    def test_sixteen_gaps(self):
        ahead = ("part a", "face f x frame") + ("lies a.f a.f",) * 7
        self.assertEqual(len(read_sheet("\n".join(ahead + ("within a.f a.f a.f a.f",))).gaps()), 16)
        fifteen = ahead + ("ahead a.f a.f",)
        self.last_refused(*fifteen, "lies a.f a.f")
        self.last_refused(*fifteen, "ahead a.f a.f", "ahead a.f a.f")

    def test_the_first_row_to_blame(self):
        self.refused(3, "part a\n\nsize\nnothing\npart a")
        self.refused(2, "#\nnothing")
        self.refused(4, "part a\n#\n\nlies a.f a.f\n")


class ShowTest(SheetTest):
    def test_by_hand(self):
        self.assertEqual(show_sheet(read_sheet(SHEET)), SHOWN)
        self.assertEqual(show_sheet(boxed(3, "9/2")), "\n".join([
            "part box", "size wide 4 5", "face left x frame", "face right x frame +wide", "part pin", "size wide 3 9/2",
            "face left x frame", "face right x frame +wide", "within pin.left pin.right box.left box.right"]))
        self.assertEqual(show_sheet(Assembly([Part("a", [])])), "part a")

    def test_terms(self):
        part = Part("a", [Size("wide", ZERO, ONE, [("off", HALF, "small"), ("all", ZERO, "fixed")]), Size("low", ONE, ONE)])
        for face, axis, told in [("a", "x", place(-3, ("wide", 1), ("low", -1), ("off", "1/2"), ("all", "-5/3"))),
                                 ("b", "y", place("7/2", ("wide", 2))), ("c", "x", place(0, ("wide", -2))),
                                 ("d", "y", place(0))]:
            part.put_face(face, axis, None, told)
        self.assertEqual(show_sheet(Assembly([part])), "\n".join([
            "part a", "size wide 0 1", "shift off wide small 1/2", "shift all wide fixed 0", "size low 1 1",
            "face a x frame -3 -5/3*all -low +1/2*off +wide", "face b y frame +7/2 +2*wide", "face c x frame -2*wide",
            "face d y frame"]))

    def hold(self, assembly):
        """What is shown is read as the same, and shown again the same."""
        text = show_sheet(assembly)
        self.assertFalse(text.endswith("\n"))
        self.assertEqual(facts(read_sheet(text)), facts(assembly))
        self.assertEqual(show_sheet(read_sheet(text)), text)

    def test_read_as_the_same(self):
        chance = random.Random(141)
        for k in range(100):
            assembly = random_assembly(chance, chance.choice(["x", "xy"]))
            self.hold(assembly)
            self.hold(moved(chance, assembly))
        for room in (2, "1/3", -1):
            self.hold(six_parts(room))
            self.hold(moved(chance, six_parts(room)))
        self.hold(boxed(Fraction(1, NINES), NINES))

    def test_twelve_names_in_one_place(self):
        names = "abcdefghijkl"
        part = Part("pin", [Size(name, ZERO, ONE) for name in names])
        part.put_face("a", "x", None, place(-1, *[(name, k - 5) for k, name in enumerate(names)]))
        part.put_face("b", "x", None, place(-1, *[(name, k + 1) for k, name in enumerate(names)]))
        self.hold(Assembly([part]))
        self.assertEqual(len(show_sheet(Assembly([part])).split("\n")[-1].split(" ")), 17)

    def test_nothing_is_changed(self):
        assembly = six_parts(1)
        before = facts(assembly)
        show_sheet(assembly)
        self.assertEqual(facts(assembly), before)


if __name__ == "__main__":
    unittest.main()
