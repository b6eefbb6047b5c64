"""Numbers: tuples (top, bottom) of whole numbers in lowest terms, bottom from 1 on."""

from fitwhatever.errors import NoNumber

ZERO = (0, 1)
ONE = (1, 1)
MINUS_ONE = (-1, 1)


def is_whole(value):
    """Whether a value is a whole number."""
    # Python counts True and False among its ints.
    return isinstance(value, int) and not isinstance(value, bool)


def common_divisor(a, b):
    """The greatest divisor of two whole numbers, with the sign of b, which isn't 0."""
    while b != 0:
        rest = a % b
        a = b
        b = rest
    return a


def common_bottom(numbers):
    """The least whole number above 0 that each bottom of the numbers divides."""
    scale = 1
    for number in numbers:
        scale = scale * number[1] // common_divisor(scale, number[1])
    return scale


def lowest_terms(top, bottom):
    """The number top / bottom, of whole numbers of which bottom isn't 0."""
    # The divisor has the bottom's sign, as each rest has, so the new bottom is above 0.
    divisor = common_divisor(top, bottom)
    return (top // divisor, bottom // divisor)


def is_number(value):
    """Whether a value is a number, in lowest terms."""
    if not isinstance(value, tuple) or len(value) != 2:
        return False
    if not is_whole(value[0]) or not is_whole(value[1]) or value[1] < 1:
        return False
    return common_divisor(value[0], value[1]) == 1


def number_of(top, bottom=1):
    """The number top / bottom, of whole numbers in any terms."""
    if not is_whole(top) or not is_whole(bottom):
        raise NoNumber("a number is made of whole numbers")
    if bottom == 0:
        raise NoNumber("the bottom of a number is not 0")
    return lowest_terms(top, bottom)


def plus(a, b):
    """The number a + b."""
    return lowest_terms(a[0] * b[1] + b[0] * a[1], a[1] * b[1])


def minus(a, b):
    """The number a - b."""
    return lowest_terms(a[0] * b[1] - b[0] * a[1], a[1] * b[1])


def times(a, b):
    """The number a * b."""
    return lowest_terms(a[0] * b[0], a[1] * b[1])


def over(a, b):
    """The number a / b."""
    if b[0] == 0:
        raise NoNumber("nothing is divided by 0")
    return lowest_terms(a[0] * b[1], a[1] * b[0])


def is_less(a, b):
    """Whether a is less than b."""
    return a[0] * b[1] < b[0] * a[1]
