"""Parts: a stock of their own, and faces whose places are sums of its names."""

from fitwhatever.errors import NoFace, NoPart, NoSize
from fitwhatever.stocks import Stock
from fitwhatever.sums import is_written_in, sum_plus

SMALL_LETTERS = "abcdefghijklmnopqrstuvwxyz"
WORD_LENGTH = 8
AXES = ("x", "y")
FRAME = "frame"


def is_word(text):
    """Whether a value may be the name of a part, or of a size, a shift or a face of one."""
    return is_written_in(text, SMALL_LETTERS, WORD_LENGTH)


def part_of(name, stock, faces):
    """A new part with faces (name, axis, place)."""
    part = Part(name, stock.sizes())
    for face, axis, place in faces:
        part.put_face(face, axis, None, place)
    return part


class Part:
    """A part, with a name, a stock and faces."""

    def __init__(self, name, sizes):
        if not is_word(name):
            raise NoPart("a part's name has one to eight small letters")
        self.name = name
        self.own_stock = Stock(sizes)
        self.put_faces = []
        for word in self.own_stock.names():
            if not is_word(word):
                raise NoSize("a name in a part has one to eight small letters")

    def stock(self):
        """The part's own stock."""
        return self.own_stock

    def put_face(self, name, axis, start, add):
        """Put a face on an axis, at the sum add from the frame (start None) or from a face of that axis."""
        if not is_word(name) or name == FRAME:
            raise NoFace("a face's name has one to eight small letters, and is not frame")
        if name in [face[0] for face in self.put_faces]:
            raise NoFace(f"the face {name} is there already")
        self.refuse_move(axis, add)
        place = add if start is None else sum_plus(self.start_place(start, axis), add)
        self.put_faces.append((name, axis, place))

    def refuse_move(self, axis, by):
        """Refuse what is no axis, and a sum with a name that the part lacks."""
        if axis not in AXES:
            raise NoFace("an axis is x or y")
        names = self.own_stock.names()
        for name, factor in by[1]:
            if name not in names:
                raise NoFace(f"the part lacks the name {name}")

    def start_place(self, start, axis):
        """The place of a face on this axis from which another one is told."""
        for name, own_axis, place in self.put_faces:
            if name == start and own_axis == axis:
                return place
        raise NoFace(f"there is no face {start} on this axis")

    def faces(self):
        """The faces as tuples (name, axis, place), as they were put."""
        return list(self.put_faces)

    def copied(self):
        """A new part like this one."""
        return part_of(self.name, self.own_stock, self.put_faces)

    def moved(self, axis, by):
        """A new part whose faces on this axis have the sum added to their places."""
        self.refuse_move(axis, by)
        faces = [(name, own_axis, sum_plus(place, by) if own_axis == axis else place)
                 for name, own_axis, place in self.put_faces]
        return part_of(self.name, self.own_stock, faces)

    def with_bounds(self, name, least, most):
        """A new part in which the size of this name has other bounds."""
        return part_of(self.name, self.own_stock.with_bounds(name, least, most), self.put_faces)
