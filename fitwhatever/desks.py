"""Desks: an assembly of a sheet, asked and changed by rows of words."""

from fitwhatever.chains import tight_chain
from fitwhatever.errors import NoNumber, NoRow
from fitwhatever.gauges import gauge_of
from fitwhatever.measures import to_measure
from fitwhatever.parts import AXES, is_word
from fitwhatever.reaches import reach_of
from fitwhatever.sheets import dotted_in, number_in, read_sheet, show_sheet, shown_number, sum_in
from fitwhatever.verdicts import verdict_of

NOTHING = "none"


class Desk:
    """An assembly of a sheet, and answers to rows about it."""

    def __init__(self, text):
        self.assembly = read_sheet(text)

    def ask(self, row):
        """The answer to a row."""
        if not isinstance(row, str):
            raise NoRow("a row is a text")
        words = row.split(" ")
        if words[0] == "bound" and len(words) == 4:
            self.assembly = with_bound(self.assembly, words)
            return "ok"
        if words[0] == "move" and len(words) > 2:
            self.assembly = with_move(self.assembly, words)
            return "ok"
        return answer(self.assembly, words)


def answer(assembly, words):
    """The answer to a row that changes nothing."""
    if words == ["verdict"]:
        return verdict_of(assembly)[0]
    if words == ["tight"]:
        tight = tight_chain(assembly.gaps(), assembly.stock())
        return NOTHING if tight is None else shown_number(tight[1])
    if words[0] == "reach" and len(words) == 3:
        reach = reach_of(assembly, dotted_in(words[1]), dotted_in(words[2]))
        return " ".join([NOTHING if end is None else shown_number(end[0]) for end in reach])
    if words[0] == "gauge" and len(words) == 2:
        return shown_gauge(assembly, part_in(words[1]))
    if words == ["measure"]:
        names = to_measure(assembly)
        return " ".join(names) if len(names) > 0 else NOTHING
    if words == ["show"]:
        return show_sheet(assembly)
    raise NoRow("there is no such row")


def shown_gauge(assembly, part):
    """The gauge of a part as words NAME=NUMBER, in the stock's order."""
    gauge = gauge_of(assembly, part)
    if gauge is None:
        return NOTHING
    return " ".join([name + "=" + shown_number(gauge[name]) for name in assembly.stock().names() if name in gauge])


def with_bound(assembly, words):
    """The assembly with other bounds of a size, by the words of a row."""
    # The words' forms are looked at ahead of what the assembly refuses.
    dotted_in(words[1])
    return assembly.with_bounds(words[1], bound_in(words[2]), bound_in(words[3]))


def with_move(assembly, words):
    """The assembly with a part moved, by the words of a row."""
    part = part_in(words[1])
    if words[2] not in AXES:
        raise NoRow("an axis is x or y")
    try:
        by = sum_in(words[3:])
    except NoNumber:
        raise NoRow("a number isn't written as it must be") from None
    return assembly.with_moved(part, words[2], by)


def part_in(word):
    """The name of a part, refused where the word can be none."""
    if not is_word(word):
        raise NoRow("a part's name has one to eight small letters")
    return word


def bound_in(word):
    """The number of a bound, refused where the word tells none."""
    try:
        return number_in(word)
    except NoNumber:
        raise NoRow("a number isn't written as it must be") from None
