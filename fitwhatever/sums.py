"""Sums: tuples (number, factors), factors a tuple of (name, number), names rising, no number 0."""

from fitwhatever.errors import NoSum
from fitwhatever.numbers import MINUS_ONE, ZERO, lowest_terms, plus, times

NAME_SIGNS = "abcdefghijklmnopqrstuvwxyz0123456789."
NAME_LENGTH = 30


def is_written_in(text, signs, most):
    """Whether a value is a text of one to most signs, all of them among the signs told."""
    if not isinstance(text, str) or not 1 <= len(text) <= most:
        return False
    return all([sign in signs for sign in text])


def is_name(text):
    """Whether a value may be a name in a sum."""
    return is_written_in(text, NAME_SIGNS, NAME_LENGTH)


def sum_of(number, pairs):
    """The sum of a number and of pairs (name, number), those of one name added up."""
    factors = {}
    for name, factor in pairs:
        factors[name] = plus(factors.get(name, ZERO), factor)
    return (number, tuple([(name, factors[name]) for name in sorted(factors) if factors[name] != ZERO]))


def sum_plus(a, b):
    """The sum a + b."""
    return sum_of(plus(a[0], b[0]), a[1] + b[1])


def sum_minus(a, b):
    """The sum a - b."""
    return sum_plus(a, sum_times(b, MINUS_ONE))


def sum_times(a, number):
    """The sum with its number and its factors times a number."""
    return sum_of(times(a[0], number), [(name, times(factor, number)) for name, factor in a[1]])


def sum_at(a, making):
    """The value of a sum by a making, which may have more names than the sum."""
    top = a[0][0]
    bottom = a[0][1]
    # Lowest terms are looked for once, at the end, as they take longer than all else.
    for name, factor in a[1]:
        if name not in making:
            raise NoSum(f"the making lacks the name {name}")
        value = making[name]
        top = top * factor[1] * value[1] + factor[0] * value[0] * bottom
        bottom = bottom * factor[1] * value[1]
    return lowest_terms(top, bottom)


def sum_called(a, word):
    """The sum with a word and a dot ahead of each name."""
    return (a[0], tuple([(f"{word}.{name}", factor) for name, factor in a[1]]))


def has_only(a, names):
    """Whether all names of a sum are among names, or in a making."""
    return all([name in names for name, factor in a[1]])
