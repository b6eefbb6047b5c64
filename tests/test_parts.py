import unittest

from fitwhatever.errors import NoFace, NoPart, NoSize
from fitwhatever.parts import Part
from fitwhatever.stocks import Size
from fitwhatever.sums import sum_of

ZERO = (0, 1)
ONE = (1, 1)
EMPTY = (ZERO, ())
WORDS = ["a", "z", "abcdefgh", "zzzzzzzz", "x", "y", "big", "none"]
NO_WORDS = ["", "abcdefghi", "A", "aB", "a1", "a.b", "a b", " ", "a\n", "a_", None, 7]


def sizes():
    return [Size("wide", ONE, (3, 1), [("off", ONE, "big")]), Size("low", ZERO, ONE)]


def lid():
    part = Part("lid", sizes())
    part.put_face("left", "x", None, sum_of((2, 1), [("wide", (-1, 2))]))
    part.put_face("base", "y", None, EMPTY)
    part.put_face("right", "x", "left", sum_of(ONE, [("wide", ONE), ("off", (-1, 3))]))
    return part


LID_FACES = [
    ("left", "x", ((2, 1), (("wide", (-1, 2)),))),
    ("base", "y", EMPTY),
    ("right", "x", ((3, 1), (("off", (-1, 3)), ("wide", (1, 2))))),
]


class PartTest(unittest.TestCase):
    def test_name_and_stock(self):
        for handed in (sizes(), tuple(sizes())):
            part = Part("lid", handed)
            self.assertEqual(part.name, "lid")
            self.assertEqual(part.stock().names(), ["wide", "off", "low"])
            self.assertEqual(part.stock().sizes()[0].shifts, (("off", ONE, "big"),))
            self.assertEqual(part.faces(), [])
        self.assertEqual(Part("lid", []).stock().names(), [])
        self.assertEqual(Part("lid", ()).stock().corners(), [{}])

    def test_words(self):
        for word in WORDS + ["frame"]:
            self.assertEqual(Part(word, []).name, word)
            self.assertEqual(Part("p", [Size(word, ZERO, ZERO)]).stock().names(), [word])
            self.assertEqual(Part("p", [Size("q", ZERO, ZERO, [(word, ZERO, "big")])]).stock().names(), ["q", word])

    def test_name_that_is_none(self):
        for word in NO_WORDS:
            with self.assertRaises(NoPart, msg=repr(word)):
                Part(word, [])

    def test_names_of_sizes_that_are_none(self):
        for name in ["abcdefghi", "a1", "a.b", "1", "."]:
            with self.assertRaises(NoSize):
                Part("p", [Size(name, ZERO, ZERO)])
            with self.assertRaises(NoSize):
                Part("p", [Size("a", ZERO, ZERO, [("b", ZERO, "big"), (name, ZERO, "big")])])

    def test_names_alike(self):
        with self.assertRaises(NoSize):
            Part("p", [Size("a", ZERO, ZERO), Size("a", ZERO, ZERO)])
        with self.assertRaises(NoSize):
            Part("p", [Size("a", ZERO, ZERO), Size("b", ZERO, ZERO, [("a", ZERO, "big")])])

    def test_no_part_goes_first(self):
        for handed in [[Size("a", ZERO, ZERO), Size("a", ZERO, ZERO)], [Size("a1", ZERO, ZERO)]]:
            with self.assertRaises(NoPart):
                Part("P", handed)

    def test_the_list_of_sizes_is_copied(self):
        handed = sizes()
        part = Part("lid", handed)
        handed.pop()
        self.assertEqual(part.stock().names(), ["wide", "off", "low"])
        part.stock().sizes().pop()
        part.stock().names().pop()
        self.assertEqual(part.stock().names(), ["wide", "off", "low"])


class FacesTest(unittest.TestCase):
    def test_from_the_frame_and_from_a_face(self):
        self.assertEqual(lid().faces(), LID_FACES)

    def test_put_face_tells_nothing(self):
        self.assertIsNone(Part("lid", []).put_face("a", "x", None, EMPTY))

    def test_from_a_face_that_was_told_from_a_face(self):
        part = lid()
        part.put_face("far", "x", "right", sum_of((-3, 1), [("wide", (-1, 2)), ("off", (1, 3))]))
        self.assertEqual(part.faces()[3], ("far", "x", EMPTY))

    def test_good_names(self):
        part = Part("lid", [])
        for word in WORDS + ["lid", "framed"]:
            part.put_face(word, "y", None, EMPTY)
        self.assertEqual([face[0] for face in part.faces()], WORDS + ["lid", "framed"])

    def refused(self, part, *face):
        before = part.faces()
        with self.assertRaises(NoFace, msg=repr(face)):
            part.put_face(*face)
        self.assertEqual(part.faces(), before)

    def test_names_that_are_none(self):
        for word in NO_WORDS + ["frame"]:
            self.refused(lid(), word, "x", None, EMPTY)

    def test_a_name_that_is_there(self):
        self.refused(lid(), "left", "x", None, EMPTY)
        self.refused(lid(), "left", "y", None, EMPTY)

    def test_no_axis(self):
        for axis in ["z", "X", "", "xy", None]:
            self.refused(lid(), "top", axis, None, EMPTY)

    def test_no_start(self):
        for axis, start in [("x", "base"), ("y", "left"), ("x", "none"), ("x", "frame"), ("x", ""), ("x", "top")]:
            self.refused(lid(), "top", axis, start, EMPTY)

    def test_a_name_that_the_part_lacks(self):
        for name in ["none", "lid.wide", "left"]:
            self.refused(lid(), "top", "x", None, sum_of(ZERO, [(name, ONE)]))
            self.refused(lid(), "top", "x", "left", sum_of(ZERO, [("wide", ONE), (name, ONE)]))

    def test_faces_are_told_anew(self):
        part = lid()
        part.faces().pop()
        part.faces()[0] = None
        self.assertEqual(part.faces(), LID_FACES)


class MovedTest(unittest.TestCase):
    def test_the_faces_of_that_axis_alone(self):
        part, by = lid(), sum_of((-2, 1), [("wide", (1, 2)), ("low", ONE)])
        moved = part.moved("x", by)
        self.assertEqual(moved.faces(), [
            ("left", "x", (ZERO, (("low", ONE),))),
            LID_FACES[1],
            ("right", "x", (ONE, (("low", ONE), ("off", (-1, 3)), ("wide", ONE)))),
        ])
        self.assertEqual(part.moved("y", by).faces(), [LID_FACES[0], ("base", "y", by), LID_FACES[2]])
        self.assertEqual((moved.name, moved.stock().names()), ("lid", ["wide", "off", "low"]))
        self.assertEqual(moved.stock().sizes()[0].shifts, (("off", ONE, "big"),))

    def test_the_part_that_was_moved_stays(self):
        part = lid()
        moved = part.moved("x", sum_of(ONE, []))
        self.assertEqual(part.faces(), LID_FACES)
        moved.put_face("top", "y", "base", EMPTY)
        self.assertEqual(part.faces(), LID_FACES)
        part.put_face("side", "x", None, EMPTY)
        self.assertEqual([face[0] for face in moved.faces()], ["left", "base", "right", "top"])

    def test_a_part_without_faces(self):
        self.assertEqual(Part("lid", []).moved("x", sum_of(ONE, [])).faces(), [])

    def test_refused(self):
        for part in (lid(), Part("lid", [])):
            before = part.faces()
            for axis in ["z", "X", "", None]:
                with self.assertRaises(NoFace):
                    part.moved(axis, EMPTY)
            with self.assertRaises(NoFace):
                part.moved("x", sum_of(ZERO, [("none", ONE)]))
            with self.assertRaises(NoFace):
                part.moved("y", sum_of(ZERO, [("lid.wide", ONE)]))
            self.assertEqual(part.faces(), before)


if __name__ == "__main__":
    unittest.main()
