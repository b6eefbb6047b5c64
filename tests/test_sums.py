import copy
import itertools
import random
import unittest
from fractions import Fraction

from fitwhatever.errors import NoSum
from fitwhatever.sums import sum_at, sum_called, sum_minus, sum_of, sum_plus, sum_times

NINES = 10 ** 18 - 1
NAMES = ["a", "a.", "a.b", "a0", "a00", "a1", "aa", "ab", "b", "b9", "zz"]
EMPTY = ((0, 1), ())


def number(fraction):
    return (fraction.numerator, fraction.denominator)


def random_number(chance):
    most = chance.choice([3, 3, 10, NINES])
    return number(Fraction(chance.randrange(-most, most + 1), chance.randrange(1, most + 1)))


def random_pairs(chance):
    return [(chance.choice(NAMES), random_number(chance)) for k in range(chance.randrange(8))]


def told_of(constant, pairs):
    """What sum_of must tell, by Python's own fractions."""
    factors = {}
    for name, factor in pairs:
        factors[name] = factors.get(name, 0) + Fraction(*factor)
    return (constant, tuple((name, number(factors[name])) for name in sorted(factors) if factors[name] != 0))


class SumOfTest(unittest.TestCase):
    def test_any_order(self):
        pairs = [("a", (1, 2)), ("a.", (1, 3)), ("a.b", (-1, 1)), ("a0", (7, 1)), ("aa", (2, 1))]
        for order in itertools.permutations(pairs):
            self.assertEqual(sum_of((5, 1), list(order)), ((5, 1), tuple(pairs)))
            self.assertEqual(sum_of((5, 1), order), ((5, 1), tuple(pairs)))

    def test_no_pairs(self):
        self.assertEqual(sum_of((-7, 2), []), ((-7, 2), ()))
        self.assertEqual(sum_of((0, 1), ()), EMPTY)

    def test_one_name_several_times(self):
        pairs = [("wide", (1, 2)), ("low", (1, 1)), ("wide", (1, 3)), ("wide", (1, 6))]
        self.assertEqual(sum_of((0, 1), pairs), ((0, 1), (("low", (1, 1)), ("wide", (1, 1)))))

    def test_no_factor_of_0(self):
        self.assertEqual(sum_of((1, 1), [("a", (0, 1))]), ((1, 1), ()))
        pairs = [("a", (1, 2)), ("b", (1, 1)), ("a", (-1, 2))]
        self.assertEqual(sum_of((1, 1), pairs), ((1, 1), (("b", (1, 1)),)))
        self.assertEqual(sum_of((1, 1), pairs + [("a", (2, 1))]), ((1, 1), (("a", (2, 1)), ("b", (1, 1)))))

    def test_names_rise_sign_by_sign(self):
        pairs = [(name, (1, 1)) for name in reversed(NAMES)]
        told = sum_of((0, 1), pairs)
        self.assertEqual([name for name, factor in told[1]], NAMES)

    def test_kinds(self):
        told = sum_of((1, 1), [("a", (1, 1))])
        self.assertIs(type(told), tuple)
        self.assertIs(type(told[1]), tuple)
        self.assertIs(type(told[1][0]), tuple)

    def test_as_fractions_add_up(self):
        chance = random.Random(5)
        for k in range(300):
            constant, pairs = random_number(chance), random_pairs(chance)
            self.assertEqual(sum_of(constant, pairs), told_of(constant, pairs))

    def test_a_list_changed_afterwards(self):
        pairs = [("a", (1, 1))]
        told = sum_of((1, 1), pairs)
        pairs.append(("b", (1, 1)))
        self.assertEqual(told, ((1, 1), (("a", (1, 1)),)))


class SumsTest(unittest.TestCase):
    def test_plus_minus(self):
        a = ((1, 2), (("a", (1, 1)), ("b", (1, 2))))
        b = ((1, 3), (("a", (-1, 1)), ("c", (1, 1))))
        self.assertEqual(sum_plus(a, b), ((5, 6), (("b", (1, 2)), ("c", (1, 1)))))
        self.assertEqual(sum_minus(a, b), ((1, 6), (("a", (2, 1)), ("b", (1, 2)), ("c", (-1, 1)))))
        self.assertEqual(sum_minus(b, a), ((-1, 6), (("a", (-2, 1)), ("b", (-1, 2)), ("c", (1, 1)))))
        self.assertEqual(sum_minus(a, a), EMPTY)
        self.assertEqual(sum_plus(a, EMPTY), a)
        self.assertEqual(sum_minus(EMPTY, b), ((-1, 3), (("a", (1, 1)), ("c", (-1, 1)))))

    def test_times(self):
        a = ((1, 2), (("a", (2, 3)), ("b", (-1, 2))))
        self.assertEqual(sum_times(a, (6, 1)), ((3, 1), (("a", (4, 1)), ("b", (-3, 1)))))
        self.assertEqual(sum_times(a, (-1, 2)), ((-1, 4), (("a", (-1, 3)), ("b", (1, 4)))))
        self.assertEqual(sum_times(a, (1, 1)), a)
        self.assertEqual(sum_times(a, (0, 1)), EMPTY)

    def test_called(self):
        a = ((1, 2), (("a", (2, 3)), ("a0", (1, 1)), ("b", (-1, 2))))
        called = ((1, 2), (("lid.a", (2, 3)), ("lid.a0", (1, 1)), ("lid.b", (-1, 2))))
        self.assertEqual(sum_called(a, "lid"), called)
        self.assertEqual(sum_called(EMPTY, "lid"), EMPTY)
        self.assertEqual(sum_called(called, "x")[1][0], ("x.lid.a", (2, 3)))
        told = sum_called(sum_of((0, 1), [(name, (1, 1)) for name in NAMES]), "p")
        self.assertEqual([name for name, factor in told[1]], ["p." + name for name in NAMES])

    def test_at(self):
        a = ((1, 2), (("a", (2, 3)), ("b", (-1, 2))))
        self.assertEqual(sum_at(a, {"a": (3, 1), "b": (1, 1)}), (2, 1))
        self.assertEqual(sum_at(a, {"a": (0, 1), "b": (0, 1)}), (1, 2))
        self.assertEqual(sum_at(a, {"c": (9, 1), "b": (1, 1), "a": (3, 1)}), (2, 1))
        self.assertEqual(sum_at(((7, 3), ()), {}), (7, 3))
        self.assertEqual(sum_at(((7, 3), ()), {"c": (9, 1)}), (7, 3))

    def test_at_without_a_name(self):
        a = ((1, 2), (("a", (2, 3)), ("b", (-1, 2))))
        for making in [{}, {"a": (1, 1)}, {"b": (1, 1)}, {"a": (1, 1), "bb": (1, 1)}]:
            with self.assertRaises(NoSum):
                sum_at(a, making)

    def test_all_as_values_do(self):
        chance = random.Random(6)
        for k in range(300):
            making = {name: random_number(chance) for name in NAMES}
            one, other = random_number(chance), random_number(chance)
            pairs, others = random_pairs(chance), random_pairs(chance)
            a, b, by = sum_of(one, pairs), sum_of(other, others), random_number(chance)
            left = Fraction(*one) + sum(Fraction(*f) * Fraction(*making[n]) for n, f in pairs)
            right = Fraction(*other) + sum(Fraction(*f) * Fraction(*making[n]) for n, f in others)
            self.assertEqual(sum_at(a, making), number(left))
            for told, value in [
                (sum_plus(a, b), left + right), (sum_minus(a, b), left - right), (sum_times(a, by), left * Fraction(*by)),
            ]:
                self.assertEqual(sum_at(told, making), number(value))
                self.assertEqual(told, told_of(told[0], told[1]))

    def test_nothing_handed_in_is_changed(self):
        pairs = [("b", (1, 1)), ("a", (1, 2)), ("b", (-1, 1))]
        making = {"b": (1, 1), "a": (1, 3), "z": (0, 1)}
        kept = copy.deepcopy((pairs, making))
        a = sum_of((1, 1), pairs)
        sum_at(a, making)
        sum_plus(a, a), sum_minus(a, a), sum_times(a, (2, 1)), sum_called(a, "p")
        self.assertEqual((pairs, making), kept)
        self.assertEqual(list(making), ["b", "a", "z"])
        self.assertEqual(a, ((1, 1), (("a", (1, 2)),)))


if __name__ == "__main__":
    unittest.main()
