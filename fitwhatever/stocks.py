"""Sizes with their shifts, and stocks: rows of sizes."""

from fitwhatever.errors import NoSize, NoSum
from fitwhatever.numbers import MINUS_ONE, ZERO, is_less, is_number, minus, plus, times
from fitwhatever.sums import is_name, sum_at, sum_times

WAYS = ("fixed", "big", "small")


class Size:
    """A size, made from its least to its most, and its shifts: a tuple of (name, allowance, way)."""

    def __init__(self, name, least, most, shifts=None):
        self.name = name
        self.least = least
        self.most = most
        self.shifts = () if shifts is None else tuple([(shift[0], shift[1], shift[2]) for shift in shifts])
        refuse_bounds(least, most)
        for shift in self.shifts:
            refuse_shift(shift)
        refuse_names(self.names())

    def names(self):
        """The size's own name, then its shifts'."""
        return [self.name] + [shift[0] for shift in self.shifts]

    def room(self, shift, value):
        """How far a shift, told by its name, may go to either side when the size is made as value."""
        for name, allowance, way in self.shifts:
            if name == shift and way == "big":
                return plus(allowance, minus(value, self.least))
            if name == shift and way == "small":
                return plus(allowance, minus(self.most, value))
            if name == shift:
                return allowance
        raise NoSize(f"the size has no shift {shift}")


def refuse_bounds(least, most):
    """Refuse bounds of a size that aren't numbers or stand the wrong way about."""
    if not is_number(least) or not is_number(most):
        raise NoSize("the bounds of a size are numbers")
    if is_less(most, least):
        raise NoSize("the least of a size is not above its most")


def refuse_shift(shift):
    """Refuse a shift whose allowance or way is none."""
    if not is_number(shift[1]) or is_less(shift[1], ZERO):
        raise NoSize("an allowance is a number from 0 on")
    if shift[2] not in WAYS:
        raise NoSize("a way is fixed, big or small")


def refuse_names(names):
    """Refuse names that are none, and two that are alike."""
    seen = {}
    for name in names:
        if not is_name(name):
            raise NoSize("a name has one to thirty small letters, figures and dots")
        if name in seen:
            raise NoSize(f"the name {name} comes twice")
        seen[name] = True


def size_with_bounds(size, least, most):
    """A new size like another one, but for its bounds."""
    return Size(size.name, least, most, size.shifts)


def size_copied(size):
    """A new size like another one."""
    return size_with_bounds(size, size.least, size.most)


def size_called(size, word):
    """A new size like another one, with a word and a dot ahead of each name."""
    shifts = [(f"{word}.{name}", allowance, way) for name, allowance, way in size.shifts]
    name = size.name
    return Size(f"{word}.{name}", size.least, size.most, shifts)


def is_from_to(value, least, most):
    """Whether a value is from a least to a most."""
    return not is_less(value, least) and not is_less(most, value)


def negative(number):
    """The number below 0 that is as far from it."""
    return times(number, MINUS_ONE)


def is_size_kept(size, making):
    """Whether the numbers of a size and of its shifts are within their bounds."""
    value = making[size.name]
    if not is_from_to(value, size.least, size.most):
        return False
    for shift in size.shifts:
        room = size.room(shift[0], value)
        if not is_from_to(making[shift[0]], negative(room), room):
            return False
    return True


def ends_of(least, most):
    """The two ends, or the one where both are the same."""
    return [least] if least == most else [least, most]


def spread(makings, additions):
    """Each making with each addition, those of the first making ahead."""
    told = []
    for making in makings:
        for addition in additions:
            both = dict(making)
            both.update(addition)
            told.append(both)
    return told


def size_corners(size):
    """The corners of one size and its shifts, sorted."""
    corners = []
    for value in ends_of(size.least, size.most):
        made = [{size.name: value}]
        for shift in size.shifts:
            room = size.room(shift[0], value)
            made = spread(made, [{shift[0]: end} for end in ends_of(negative(room), room)])
        corners.extend(made)
    return corners


def lowest_shift(factor, room):
    """Where a shift with this factor gives the least."""
    if is_less(ZERO, factor):
        return negative(room)
    return room if is_less(factor, ZERO) else ZERO


def lowest_shifts(size, value, factors):
    """The making of a size as value, with its shifts where they give the least."""
    making = {size.name: value}
    for shift in size.shifts:
        making[shift[0]] = lowest_shift(factors.get(shift[0], ZERO), size.room(shift[0], value))
    return making


def worth_of(making, factors):
    """What the names of a making add to a sum with these factors."""
    return sum_at((ZERO, tuple([(name, factors[name]) for name in making if name in factors])), making)


def lowest_corner(size, factors):
    """The making of a size and its shifts that gives the least, by the size's least where both give the same."""
    low = lowest_shifts(size, size.least, factors)
    high = lowest_shifts(size, size.most, factors)
    return high if is_less(worth_of(high, factors), worth_of(low, factors)) else low


def least_worth(size, factors):
    """The least that a size and its shifts add to a sum with these factors."""
    return worth_of(lowest_corner(size, factors), factors)


class Stock:
    """A row of sizes, all names of sizes and shifts unlike."""

    def __init__(self, sizes):
        # Copies, so that nothing done to a size outside changes the stock.
        self.kept = [size_copied(size) for size in sizes]
        refuse_names(self.names())

    def sizes(self):
        """The sizes, in order."""
        return [size_copied(size) for size in self.kept]

    def names(self):
        """All names in order: a size's, then its shifts', then the next size's."""
        names = []
        for size in self.kept:
            names.extend(size.names())
        return names

    def keeps(self, making):
        """Whether a making has just the stock's names, each within its bounds."""
        if set(making) != set(self.names()):
            return False
        return all([is_size_kept(size, making) for size in self.kept])

    def corners(self):
        """All corners as makings, each once, sorted by the numbers in the stock's order."""
        # A room hangs on its own size alone, so the corners come sorted as each size's own do.
        corners = [{}]
        for size in self.kept:
            corners = spread(corners, size_corners(size))
        return corners

    def lowest(self, a):
        """The least of a sum over the stock."""
        return sum_at(a, self.lowest_at(a))

    def highest(self, a):
        """The most of a sum over the stock."""
        return sum_at(a, self.highest_at(a))

    def lowest_at(self, a):
        """A making by which a sum has its least."""
        names = self.names()
        for name, factor in a[1]:
            if name not in names:
                raise NoSum(f"the stock lacks the name {name}")
        factors = dict(a[1])
        making = {}
        for size in self.kept:
            making.update(lowest_corner(size, factors))
        return making

    def highest_at(self, a):
        """A making by which a sum has its most."""
        return self.lowest_at(sum_times(a, MINUS_ONE))

    def with_bounds(self, name, least, most):
        """A new stock in which the size of this name has other bounds."""
        if name not in [size.name for size in self.kept]:
            raise NoSize(f"the stock has no size {name}")
        return Stock([size_with_bounds(size, least, most) if size.name == name else size for size in self.kept])

    def called(self, word):
        """A new stock with a word and a dot ahead of each name."""
        return Stock([size_called(size, word) for size in self.kept])

    def and_all(self, other):
        """A new stock of this one's sizes, then the other one's."""
        return Stock(self.kept + other.sizes())
