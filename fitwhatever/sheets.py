"""Sheets: assemblies as texts, row by row, read and shown."""

from fitwhatever.assemblies import Assembly
from fitwhatever.errors import FitError, NoNumber, NoRow, NoSheet
from fitwhatever.numbers import MINUS_ONE, ONE, ZERO, common_divisor, is_less, plus, times
from fitwhatever.parts import FRAME, Part, is_word, part_of
from fitwhatever.stocks import Size, Stock
from fitwhatever.sums import is_written_in, sum_of

FIGURES = "0123456789"
MOST_FIGURES = 18
MOST_TERMS = 13

# How many words a row of each kind has; a row of a face may have more.
LENGTHS = {"part": 2, "size": 4, "shift": 5, "face": 4, "lies": 3, "ahead": 3, "within": 5}
JOINTS = ("lies", "ahead", "within")


def shown_number(number):
    """A number as a text."""
    top = number[0]
    bottom = number[1]
    return f"{top}" if bottom == 1 else f"{top}/{bottom}"


def number_in(text):
    """The number that a text tells."""
    if not isinstance(text, str):
        raise NoNumber("a number is told by a text")
    below = text.startswith("-")
    words = text[1:].split("/") if below else text.split("/")
    wholes = [whole_in(word) for word in words]
    if len(wholes) > 2 or (below and wholes[0] == 0):
        raise NoNumber("a number has one bottom at most, and 0 no sign")
    bottom = wholes[1] if len(wholes) == 2 else 1
    if len(wholes) == 2 and (bottom < 2 or common_divisor(wholes[0], bottom) != 1):
        raise NoNumber("a number is in lowest terms, a bottom 1 isn't written")
    return (-wholes[0] if below else wholes[0], bottom)


def whole_in(text):
    """The whole number from 0 on that a text of figures tells."""
    if not is_written_in(text, FIGURES, MOST_FIGURES) or (text.startswith("0") and text != "0"):
        raise NoNumber("a number has one to eighteen figures, no 0 ahead")
    return int(text)


def words_in(row):
    """The words of a row, refused where it hasn't as many as its first one asks for."""
    words = row.split(" ")
    many = LENGTHS.get(words[0])
    if many is None or len(words) < many or (len(words) > many and words[0] != "face"):
        raise NoRow("there is no such row")
    return words


def dotted_in(word):
    """The two names of a word such as PART.FACE, as a tuple."""
    names = tuple(word.split("."))
    if len(names) != 2 or not is_word(names[0]) or not is_word(names[1]):
        raise NoRow("a word of two names has a dot between them")
    return names


def sum_in(words):
    """The sum of terms, one in each word."""
    if len(words) > MOST_TERMS:
        raise NoRow("there are at most thirteen terms")
    alone = ZERO
    pairs = []
    for word in words:
        term = term_in(word)
        if term[0] is None:
            alone = plus(alone, term[1])
        else:
            pairs.append(term)
    return sum_of(alone, pairs)


def term_in(word):
    """The name of a term, None where it has none, and its factor."""
    if word[:1] not in ("+", "-"):
        raise NoRow("a term begins with its sign")
    sign = ONE if word[:1] == "+" else MINUS_ONE
    rest = word[1:]
    if is_word(rest):
        return (rest, sign)
    halves = rest.split("*")
    if len(halves) > 2 or rest.startswith("-"):
        raise NoRow("a term is a number from 0 on, a name, or both with a star between")
    if len(halves) == 2 and not is_word(halves[1]):
        raise NoRow("behind the star of a term stands a name")
    return (halves[1] if len(halves) == 2 else None, times(sign, number_in(halves[0])))


class Draft:
    """What the rows of a sheet, so far, have told: parts, then an assembly of them."""

    def __init__(self):
        self.sizes_told = []
        self.parts_told = []
        self.joined = None

    def put_words(self, words):
        """Put a row, told by its words; what can't be made by it is refused."""
        if words[0] in JOINTS:
            self.put_joint(words)
        elif self.joined is not None:
            raise NoRow("all parts stand ahead of the rows for their faces")
        elif words[0] == "part":
            self.put_sizes(self.sizes_told + [(words[1], [])], [])
        elif len(self.parts_told) == 0:
            raise NoRow("there is no part ahead")
        elif words[0] == "face":
            start = None if words[3] == FRAME else words[3]
            self.parts_told[-1].put_face(words[1], words[2], start, sum_in(words[4:]))
        else:
            self.change_part(words)

    def change_part(self, words):
        """Put a size or a shift to the last part."""
        name = self.sizes_told[-1][0]
        sizes = self.sizes_told[-1][1]
        if words[0] == "size":
            sizes = sizes + [Size(words[1], number_in(words[2]), number_in(words[3]))]
        else:
            sizes = sizes_with_shift(sizes, words[2], (words[1], number_in(words[4]), words[3]))
        self.put_sizes(self.sizes_told[:-1] + [(name, sizes)], self.parts_told[-1].faces())

    def put_sizes(self, sizes_told, faces):
        """Let the parts be these, told by names and sizes, the last one with these faces."""
        # It refuses what no assembly has; without the faces, as this is done for each row.
        Assembly([Part(name, sizes) for name, sizes in sizes_told])
        last = sizes_told[-1]
        self.parts_told = self.parts_told[:len(sizes_told) - 1] + [part_of(last[0], Stock(last[1]), faces)]
        self.sizes_told = sizes_told

    def put_joint(self, words):
        """Put a row for faces."""
        if self.joined is None:
            self.joined = Assembly(self.parts_told)
        self.joined.put_row(words[0], tuple([dotted_in(word) for word in words[1:]]))

    def whole(self):
        """The assembly that the rows have told."""
        return Assembly(self.parts_told) if self.joined is None else self.joined


def sizes_with_shift(sizes, name, shift):
    """The sizes, with one more shift of the size of this name."""
    if name not in [size.name for size in sizes]:
        raise NoRow("there is no such size ahead in the part")
    return [size_with_shift(size, shift) if size.name == name else size for size in sizes]


def size_with_shift(size, shift):
    """A new size like another one, with one more shift."""
    return Size(size.name, size.least, size.most, size.shifts + (shift,))


def read_sheet(text):
    """The assembly that a sheet tells."""
    draft = Draft()
    rows = text.split("\n")
    for k, row in enumerate(rows, start=1):
        if row != "" and not row.startswith("#"):
            try:
                draft.put_words(words_in(row))
            except FitError:
                raise NoSheet(k) from None
    if len(draft.parts_told) == 0:
        raise NoSheet(len(rows) + 1)
    return draft.whole()


def show_sheet(assembly):
    """The sheet of an assembly."""
    rows = []
    for part in assembly.parts():
        rows.extend(shown_part(part))
    for row in assembly.rows():
        rows.append(" ".join([row[0]] + [shown_face(face) for face in row[1:]]))
    return "\n".join(rows)


def shown_part(part):
    """The rows of a part."""
    rows = [" ".join(["part", part.name])]
    for size in part.stock().sizes():
        rows.append(" ".join(["size", size.name, shown_number(size.least), shown_number(size.most)]))
        for name, allowance, way in size.shifts:
            rows.append(" ".join(["shift", name, size.name, way, shown_number(allowance)]))
    for name, axis, place in part.faces():
        rows.append(" ".join(["face", name, axis, FRAME] + shown_terms(place)))
    return rows


def shown_face(face):
    """A face (part, face) as a word."""
    return ".".join(face)


def shown_terms(a):
    """The terms of a sum, as words."""
    terms = [] if a[0] == ZERO else [shown_sign(a[0]) + shown_number(size_of(a[0]))]
    for name, factor in a[1]:
        size = size_of(factor)
        ahead = "" if size == ONE else shown_number(size) + "*"
        terms.append(shown_sign(factor) + ahead + name)
    return terms


def shown_sign(number):
    """The sign of a number, written in each case."""
    return "-" if is_less(number, ZERO) else "+"


def size_of(number):
    """A number without its sign."""
    return times(number, MINUS_ONE) if is_less(number, ZERO) else number
