"""Assemblies: parts, the rows that tell how they stand to one another, and the gaps that come of these."""

from fitwhatever.errors import NoFace, NoJoint, NoPart, TooMany
from fitwhatever.stocks import Stock
from fitwhatever.sums import sum_called, sum_minus

MOST_PARTS = 6
MOST_NAMES = 12
MOST_GAPS = 16

# By each word of a row: which of its faces stands ahead of which, gap by gap.
AHEAD_BY = {"lies": ((0, 1), (1, 0)), "ahead": ((0, 1),), "within": ((2, 0), (1, 3))}


def gap_between(one, other):
    """The gap by which one isn't beyond the other, both told as place_of tells them."""
    return (one[0], other[0], sum_minus(other[1], one[1]))


def stock_of(parts):
    """The stocks of the parts, in their order, each called by its part."""
    stock = Stock([])
    for part in parts:
        stock = stock.and_all(part.stock().called(part.name))
    return stock


def refuse_parts(names):
    """Refuse parts by their names where there are none, too many, or two alike."""
    if not 1 <= len(names) <= MOST_PARTS:
        raise NoPart("an assembly has one to six parts")
    if len(set(names)) < len(names):
        raise NoPart("the parts of an assembly have unlike names")


class Assembly:
    """One to six parts, and the rows put for them one by one."""

    def __init__(self, parts):
        refuse_parts([part.name for part in parts])
        # Copies, so that a face put outside doesn't change the assembly.
        self.own_parts = [part.copied() for part in parts]
        self.whole_stock = stock_of(self.own_parts)
        self.put_rows = []
        self.put_gaps = []
        if len(self.whole_stock.names()) > MOST_NAMES:
            raise TooMany("an assembly has at most twelve names")

    def lies(self, one, other):
        """Put a row: both faces are at the same place."""
        self.put_row("lies", (one, other))

    def ahead(self, one, other):
        """Put a row: one isn't beyond the other."""
        self.put_row("ahead", (one, other))

    def within(self, one, two, three, four):
        """Put a row: three isn't beyond one, nor two beyond four."""
        self.put_row("within", (one, two, three, four))

    def put_row(self, word, faces):
        """Put a row of this word, with the gaps that it gives."""
        places = [self.place_of(face) for face in faces]
        if len(set([node[0] for node, place in places])) > 1:
            raise NoJoint("the faces of a row are on one axis")
        gaps = [gap_between(places[one], places[other]) for one, other in AHEAD_BY[word]]
        if len(self.put_gaps) + len(gaps) > MOST_GAPS:
            raise TooMany("an assembly has at most sixteen gaps")
        self.put_rows.append((word,) + faces)
        self.put_gaps.extend(gaps)

    def stock(self):
        """The parts' stocks in one, names as in the assembly."""
        return self.whole_stock

    def parts(self):
        """The parts, as copies."""
        return [part.copied() for part in self.own_parts]

    def rows(self):
        """The rows as tuples (word, face, ..), as they were put."""
        return list(self.put_rows)

    def gaps(self):
        """The gaps, row by row."""
        return list(self.put_gaps)

    def place_of(self, face):
        """The node of a face (part, face), and its place from there, names as in the assembly."""
        for part in self.own_parts:
            for name, axis, place in part.faces():
                if (part.name, name) == face:
                    return ((axis, part.name), sum_called(place, part.name))
        raise NoFace(f"there is no face {face!r}")

    def with_bounds(self, name, least, most):
        """A new assembly in which the size of this name, as in the assembly, has other bounds."""
        # The stock refuses first what isn't there: only then the name has a part and a dot.
        self.whole_stock.with_bounds(name, least, most)
        words = name.partition(".")
        return self.with_parts([
            part.with_bounds(words[2], least, most) if part.name == words[0] else part for part in self.own_parts
        ])

    def with_moved(self, part, axis, by):
        """A new assembly in which the part of this name is moved by a sum of its own names."""
        if part not in [own.name for own in self.own_parts]:
            raise NoPart(f"there is no part {part!r}")
        return self.with_parts([own.moved(axis, by) if own.name == part else own for own in self.own_parts])

    def with_parts(self, parts):
        """A new assembly of these parts, with the same rows."""
        assembly = Assembly(parts)
        for row in self.put_rows:
            assembly.put_row(row[0], row[1:])
        return assembly
