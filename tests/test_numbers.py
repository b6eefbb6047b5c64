import random
import unittest
from fractions import Fraction

from fitwhatever.errors import NoNumber
from fitwhatever.numbers import is_less, is_number, minus, number_of, over, plus, times

NINES = 10 ** 18 - 1
NO_WHOLES = [True, False, None, "", "1", 1.0, (), (1,), (1, 2), [], [1], {}, {1: 2}]


def number(fraction):
    return (fraction.numerator, fraction.denominator)


def samples():
    """Small numbers and numbers of eighteen figures, below 0 too."""
    numbers = [(0, 1), (1, 1), (-1, 1), (1, 2), (-1, 2), (2, 3), (3, 2), (-7, 4), (5, 6), (1, 6)]
    numbers += [(NINES, 1), (-NINES, 1), (1, NINES), (-1, NINES), (NINES, NINES - 1), (1 - NINES, NINES)]
    chance = random.Random(4)
    for figures in (1, 2, 9, 18):
        for k in range(6):
            top = chance.randrange(-10 ** figures + 1, 10 ** figures)
            numbers.append(number(Fraction(top, chance.randrange(1, 10 ** figures))))
    return numbers


class NumberOfTest(unittest.TestCase):
    def test_lowest_terms(self):
        for top, bottom, told in [
            (6, 4, (3, 2)), (4, 6, (2, 3)), (3, 2, (3, 2)), (10, 5, (2, 1)), (5, 10, (1, 2)),
            (-6, 4, (-3, 2)), (6, -4, (-3, 2)), (-6, -4, (3, 2)), (-1, -1, (1, 1)), (1, -1, (-1, 1)),
            (0, 1, (0, 1)), (0, 7, (0, 1)), (0, -7, (0, 1)), (NINES, NINES, (1, 1)), (NINES, -NINES, (-1, 1)),
        ]:
            self.assertEqual(number_of(top, bottom), told, (top, bottom))

    def test_as_fractions_are(self):
        for top in range(-12, 13):
            for bottom in list(range(-12, 0)) + list(range(1, 13)):
                told = number_of(top, bottom)
                self.assertEqual(told, number(Fraction(top, bottom)))
                self.assertIs(type(told), tuple)

    def test_bottom_left_out(self):
        for top in (0, 7, -7, NINES, -NINES):
            self.assertEqual(number_of(top), (top, 1))

    def test_bottom_by_its_name(self):
        self.assertEqual(number_of(top=4, bottom=2), (2, 1))

    def test_no_bottom_of_0(self):
        for top in (0, 1, -1, NINES):
            with self.assertRaises(NoNumber):
                number_of(top, 0)

    def test_no_whole_numbers(self):
        for value in NO_WHOLES:
            for arguments in [(value,), (value, 1), (1, value), (value, value), (value, 0), (0, value)]:
                with self.assertRaises(NoNumber, msg=repr(arguments)):
                    number_of(*arguments)


class SumsOfNumbersTest(unittest.TestCase):
    def test_all_as_fractions_do(self):
        for a in samples():
            for b in samples():
                one, other = Fraction(*a), Fraction(*b)
                self.assertEqual(plus(a, b), number(one + other), (a, b))
                self.assertEqual(minus(a, b), number(one - other), (a, b))
                self.assertEqual(times(a, b), number(one * other), (a, b))
                self.assertIs(is_less(a, b), one < other, (a, b))
                if other != 0:
                    self.assertEqual(over(a, b), number(one / other), (a, b))

    def test_some_written_out(self):
        self.assertEqual(plus((1, 2), (1, 3)), (5, 6))
        self.assertEqual(plus((1, 2), (1, 2)), (1, 1))
        self.assertEqual(minus((1, 2), (1, 2)), (0, 1))
        self.assertEqual(minus((1, 3), (1, 2)), (-1, 6))
        self.assertEqual(times((2, 3), (-3, 2)), (-1, 1))
        self.assertEqual(times((2, 3), (0, 1)), (0, 1))
        self.assertEqual(over((2, 3), (-4, 3)), (-1, 2))
        self.assertEqual(over((0, 1), (-4, 3)), (0, 1))

    def test_nothing_is_divided_by_0(self):
        for a in samples():
            with self.assertRaises(NoNumber):
                over(a, (0, 1))

    def test_is_less(self):
        self.assertIs(is_less((1, 3), (1, 2)), True)
        self.assertIs(is_less((1, 2), (1, 3)), False)
        self.assertIs(is_less((-1, 2), (-1, 3)), True)
        self.assertIs(is_less((-1, 3), (-1, 2)), False)
        self.assertIs(is_less((-1, 1), (0, 1)), True)
        self.assertIs(is_less((NINES - 1, NINES), (1, 1)), True)
        for a in samples():
            self.assertIs(is_less(a, a), False)

    def test_what_comes_may_be_handed_in_again(self):
        value, same = (1, NINES), Fraction(1, NINES)
        for k in range(2, 40):
            value = plus(times(value, (k, k + 1)), over((k, NINES - k), (-k - 1, 7)))
            same = same * Fraction(k, k + 1) + Fraction(k, NINES - k) / Fraction(-k - 1, 7)
            self.assertEqual(value, number(same))
            self.assertEqual(number_of(value[0], value[1]), value)

    def test_what_a_number_is(self):
        for value in samples():
            self.assertIs(is_number(value), True, value)
        for value in [None, True, 7, "1", (), (1,), (1, 2, 3), [1, 2], (0, 2), (2, 4), (-2, 4), (1, 0), (0, 0), (1, -1),
                      (True, 1), (1, True), ("1", 1), (1, None)]:
            self.assertIs(is_number(value), False, value)


if __name__ == "__main__":
    unittest.main()
