import copy
import itertools
import math
import random
import unittest
from fractions import Fraction

from fitwhatever.errors import FitError, NoProgram
from fitwhatever.programs import best_of

THIRTY = 10 ** 30 - 1


def dot(row, numbers):
    return sum((Fraction(a) * b for a, b in zip(row, numbers)), Fraction(0))


def solution(rows, limits):
    """The one point at which so many equations hold as there are unknowns, or None."""
    grid = [[Fraction(value) for value in row] + [Fraction(limit)] for row, limit in zip(rows, limits)]
    for k in range(len(grid)):
        at = next((i for i in range(k, len(grid)) if grid[i][k]), None)
        if at is None:
            return None
        grid[k], grid[at] = grid[at], grid[k]
        grid[k] = [value / grid[k][k] for value in grid[k]]
        for i in range(len(grid)):
            if i != k and grid[i][k]:
                grid[i] = [value - grid[i][k] * other for value, other in zip(grid[i], grid[k])]
    return [row[-1] for row in grid]


def corner_points(long, rows, limits):
    """All corners of a program, by trying all choices of rows and bounds that may bind."""
    bounds = [[-1 if k == j else 0 for j in range(long)] for k in range(long)]
    points = []
    for chosen in itertools.combinations(list(zip(rows, limits)) + [(bound, 0) for bound in bounds], long):
        point = solution([row for row, limit in chosen], [limit for row, limit in chosen])
        if point is not None and min(point, default=0) >= 0:
            if all(dot(row, point) <= limit for row, limit in zip(rows, limits)):
                points.append(point)
    return points


def slowly(goal, rows, limits):
    """What must be told of a program: a word, and the value of the best; by a search of all corners."""
    points = corner_points(len(goal), rows, limits)
    if not points:
        return ("none", None)
    ways = corner_points(len(goal), list(rows) + [[1] * len(goal)], [0] * len(rows) + [1])
    if max(dot(goal, way) for way in ways) > 0:
        return ("open", None)
    return ("best", max(dot(goal, point) for point in points))


class ProgramsTest(unittest.TestCase):
    def numbers(self, told, many, least=0):
        """Numbers from 0 on, told as a tuple of so many, in lowest terms, as fractions."""
        self.assertIs(type(told), tuple)
        self.assertEqual(len(told), many)
        for number in told:
            self.is_number(number)
            self.assertGreaterEqual(number[0], least)
        return [Fraction(*number) for number in told]

    def is_number(self, number):
        self.assertIs(type(number), tuple)
        self.assertEqual([type(part) for part in number], [int, int])
        self.assertGreaterEqual(number[1], 1)
        self.assertEqual(math.gcd(*number), 1)

    def told(self, goal, rows, limits):
        """What is told of a program, its paper held by the words of point 15."""
        before = copy.deepcopy((goal, rows, limits))
        told = best_of(goal, rows, limits)
        self.assertEqual((goal, rows, limits), before)
        self.assertIs(type(told), tuple)
        getattr(self, "hold_" + told[0])(goal, rows, limits, *told[1:])
        return told

    def hold_point(self, goal, rows, limits, point):
        point = self.numbers(point, len(goal))
        for row, limit in zip(rows, limits):
            self.assertLessEqual(dot(row, point), limit)
        return point

    def hold_best(self, goal, rows, limits, value, point, prices):
        self.is_number(value)
        point, prices = self.hold_point(goal, rows, limits, point), self.numbers(prices, len(rows))
        self.assertEqual(dot(goal, point), Fraction(*value))
        self.assertEqual(dot(limits, prices), Fraction(*value))
        for k in range(len(goal)):
            self.assertGreaterEqual(dot([row[k] for row in rows], prices), goal[k])

    def hold_open(self, goal, rows, limits, point, way):
        self.hold_point(goal, rows, limits, point)
        way = self.numbers(way, len(goal))
        for row in rows:
            self.assertLessEqual(dot(row, way), 0)
        self.assertGreater(dot(goal, way), 0)

    def hold_none(self, goal, rows, limits, prices):
        prices = self.numbers(prices, len(rows))
        for k in range(len(goal)):
            self.assertGreaterEqual(dot([row[k] for row in rows], prices), 0)
        self.assertLess(dot(limits, prices), 0)

    def best(self, value, goal, rows, limits):
        told = self.told(goal, rows, limits)
        self.assertEqual(told[0], "best")
        self.assertEqual(Fraction(*told[1]), Fraction(value))
        return told

    def test_written_out(self):
        told = self.best(36, [3, 5], [[1, 0], [0, 2], [3, 2]], [4, 12, 18])
        self.assertEqual(told, ("best", (36, 1), ((2, 1), (6, 1)), ((0, 1), (3, 2), (1, 1))))
        told = self.best("1/3", [1], [[3]], [1])
        self.assertEqual(told, ("best", (1, 3), ((1, 3),), ((1, 3),)))

    def test_of_tuples(self):
        self.assertEqual(best_of((1,), ((3,),), (1,)), ("best", (1, 3), ((1, 3),), ((1, 3),)))

    def test_limits_below_0(self):
        self.best(-2, [-1, -1], [[-1, 0], [0, -1]], [-1, -1])
        self.best(-3, [-1, -2], [[-1, -1], [1, 0]], [-2, 1])
        self.best("-5/2", [-1, 0], [[-2, 1], [0, -1], [-2, -1]], [-5, 0, -5])

    def test_limits_that_bind_alike_below_0(self):
        self.best(-1, [-1, -1], [[-1, -1], [-1, -1], [-2, -2], [-1, -1]], [-1, -1, -2, -1])
        self.best(-1, [-1], [[-1], [1], [-1], [1]], [-1, 1, -1, 1])

    def test_open(self):
        self.assertEqual(self.told([1], [], []), ("open", ((0, 1),), ((1, 1),)))
        self.assertEqual(self.told([0, 2], [[1, 0]], [3])[0], "open")
        self.assertEqual(self.told([1, 1], [[1, -1], [-1, 1]], [2, 2])[0], "open")
        told = self.told([-1, 1], [[-2, 1], [-1, -1]], [0, -4])
        self.assertEqual(told[0], "open")

    def test_open_by_way_of_what_a_row_has_left(self):
        told = self.told([1, 1, -1], [[1, -1, 0], [-1, 1, 0], [1, -2, 1]], [1, 1, 1])
        self.assertEqual(told[0], "open")

    def test_none(self):
        self.assertEqual(self.told([1], [[1]], [-1])[0], "none")
        self.assertEqual(self.told([1], [[-1], [1]], [-2, 1])[0], "none")
        self.assertEqual(self.told([0, 0], [[1, -1], [-1, 1]], [-1, 0])[0], "none")
        self.assertEqual(self.told([1, 1], [[1, 1], [-2, -1], [1, 0]], [3, -7, 9])[0], "none")

    def test_just_a_point_and_just_none(self):
        self.best(3, [1, 0], [[1, 1], [-1, -2], [0, 1]], [3, -3, 0])
        self.assertEqual(self.told([1, 0], [[1, 1], [-THIRTY, -THIRTY]], [1, -THIRTY])[0], "best")
        self.assertEqual(self.told([1, 0], [[1, 1], [1 - THIRTY, 1 - THIRTY]], [1, -THIRTY])[0], "none")

    def test_goals_and_rows_of_no_numbers(self):
        self.assertEqual(self.told([], [], []), ("best", (0, 1), (), ()))
        self.assertEqual(self.told([], [[], []], [0, 7]), ("best", (0, 1), (), ((0, 1), (0, 1))))
        told = self.told([], [[], [], []], [0, -3, 7])
        self.assertEqual(told[0], "none")
        self.assertEqual([told[1][0][0] >= 0, told[1][1][0] > 0], [True, True])

    def test_no_rows(self):
        self.assertEqual(self.told([-1, 0], [], []), ("best", (0, 1), ((0, 1), (0, 1)), ()))
        self.assertEqual(self.told([-1, 5, 0], [], [])[0], "open")

    def test_rows_and_limits_of_0(self):
        self.best(0, [0, 0], [[0, 0]], [0])
        self.best(0, [-1, 0], [[0, 0], [0, 0]], [0, 5])
        self.best(0, [1, 1], [[1, 0], [0, 1], [1, 1]], [0, 0, 0])
        self.best(0, [1, -3], [[1, -2], [1, -3]], [0, 0])
        self.assertEqual(self.told([1, -1], [[1, -2], [1, -3]], [0, 0])[0], "open")
        self.assertEqual(self.told([0, 0], [[0, 0], [1, 1]], [-1, 5])[0], "none")
        self.assertEqual(self.told([1, 0], [[0, 0], [0, 1]], [0, 5])[0], "open")

    def test_equal_rows(self):
        self.best(6, [2, 1], [[1, 1]] * 5, [3] * 5)
        self.best(6, [2, 1], [[1, 1]] * 5, [7, 5, 3, 4, 6])
        self.best(-6, [-2, -3], [[-1, -1]] * 4, [-3, -2, -3, -1])
        self.best(1, [1, 0], [[1, 1], [-1, -1]] * 3, [1, -1] * 3)

    def test_programs_in_which_ties_go_round(self):
        # Of Beale, of Chvatal and of Kuhn, in whole numbers.
        self.best(5, [75, -15000, 2, -600], [[25, -6000, -4, 900], [50, -9000, -2, 300], [0, 0, 1, 0]], [0, 0, 1])
        self.best(1, [10, -57, -9, -24], [[1, -11, -5, 18], [1, -3, -1, 2], [1, 0, 0, 0]], [0, 0, 1])
        self.best(2, [2, 3, -1, -12], [[-2, -9, 1, 9], [1, 3, -1, -6], [2, 3, -1, -12]], [0, 0, 2])
        self.assertEqual(self.told([2, 3, -1, -12], [[-2, -9, 1, 9], [1, 3, -1, -6]], [0, 0])[0], "open")
        for order in itertools.permutations(range(4)):
            goal = [[10, -57, -9, -24][k] for k in order]
            rows = [[row[k] for k in order] for row in [[1, -11, -5, 18], [1, -3, -1, 2], [1, 0, 0, 0]]]
            self.best(1, goal, rows, [0, 0, 1])
            self.best(1, goal, rows[::-1], [1, 0, 0])

    def test_many_ties(self):
        # Each thing to one place, at most one thing to a place.
        chance = random.Random(40)
        pairs = [(k, j) for k in range(6) for j in range(7)]
        for turn in range(5):
            worth = {pair: chance.randrange(1, 6) for pair in pairs}
            rows = [[int(pair[0] == k) for pair in pairs] for k in range(6)]
            rows += [[int(pair[1] == j) for pair in pairs] for j in range(7)]
            rows += [[-int(pair[0] == k) for pair in pairs] for k in range(6)]
            best = max(sum(worth[k, j] for k, j in enumerate(chosen)) for chosen in itertools.permutations(range(7), 6))
            self.best(best, [worth[pair] for pair in pairs], rows, [1] * 13 + [-1] * 6)

    def test_a_long_way_round_the_corners(self):
        for long in (3, 12, 42):
            rows = [[2 ** (k - j + 1) if j < k else int(j == k) for j in range(long)] for k in range(long)]
            goal = [2 ** (long - 1 - k) for k in range(long)]
            self.best(5 ** long, goal, rows, [5 ** (k + 1) for k in range(long)])

    def test_as_by_a_search_of_all_corners(self):
        chance = random.Random(41)
        words = []
        for k in range(700):
            long, many, most = chance.randrange(4), chance.randrange(5), chance.choice([1, 2, 5])
            goal = [chance.randint(-most, most) for j in range(long)]
            rows = [[chance.randint(-most, most) for j in range(long)] for i in range(many)]
            if many > 1 and k % 3 == 0:
                rows[0] = list(rows[-1])
            limits = [chance.choice([0, chance.randint(-most, most)]) for i in range(many)]
            told, wanted = self.told(goal, rows, limits), slowly(goal, rows, limits)
            self.assertEqual(told[0], wanted[0], (goal, rows, limits))
            if told[0] == "best":
                self.assertEqual(Fraction(*told[1]), wanted[1])
            words.append(told[0])
        self.assertGreater(min(words.count(word) for word in ("best", "open", "none")), 100)

    def test_papers_of_greater_programs(self):
        chance = random.Random(42)
        words = []
        for k in range(120):
            long, many, most = chance.randrange(1, 13), chance.randrange(1, 13), chance.choice([1, 3, 1000])
            goal = [chance.randint(-most, most) for j in range(long)]
            rows = [[chance.randint(-most, most) for j in range(long)] for i in range(many)]
            words.append(self.told(goal, rows, [chance.randint(-most // 2, most) for i in range(many)])[0])
        self.assertEqual(set(words), {"best", "open", "none"})

    def square(self, chance, most):
        return [[chance.randint(-most, most) for j in range(48)] for i in range(48)]

    def with_a_best(self, chance, rows, most):
        """A goal and limits with which there is a best: its point and its prices are hidden in them."""
        point, prices = [[chance.choice([0, 1, 2]) for k in range(48)] for turn in range(2)]
        limits = [sum(a * b for a, b in zip(row, point)) + (0 if price else chance.randint(0, most))
                  for row, price in zip(rows, prices)]
        goal = [sum(row[k] * price for row, price in zip(rows, prices)) - (0 if point[k] else chance.randint(0, most))
                for k in range(48)]
        return goal, limits, sum(a * b for a, b in zip(goal, point))

    def test_forty_eight_rows_of_forty_eight_numbers(self):
        chance = random.Random(43)
        for most in (1, 9):
            rows = self.square(chance, most)
            goal, limits, value = self.with_a_best(chance, rows, most)
            self.best(value, goal, rows, limits)
            self.best(0, goal, rows, [0] * 48)
            spoiled = [[-sum(row[k] for row in rows[:9]) for k in range(48)]] + rows[:47]
            self.assertEqual(self.told(goal, spoiled, [-sum(limits[:9]) - 1] + limits[:47])[0], "none")
            self.told(goal, [[-abs(value) for value in row] for row in rows], [-1] * 48)

    def test_forty_eight_rows_of_thirty_figures(self):
        chance = random.Random(44)
        rows = self.square(chance, THIRTY)
        goal, limits, value = self.with_a_best(chance, rows, THIRTY)
        self.best(value, goal, rows, limits)

    def test_numbers_of_thirty_figures(self):
        self.best(Fraction(THIRTY * THIRTY, THIRTY - 1), [THIRTY], [[THIRTY - 1]], [THIRTY])
        told = self.told([1], [[-THIRTY], [THIRTY - 1]], [-THIRTY, THIRTY - 2])
        self.assertEqual(told[0], "none")
        self.assertEqual(self.told([1], [[-THIRTY], [THIRTY - 1]], [-THIRTY, THIRTY - 1])[0], "best")
        chance = random.Random(45)
        for k in range(15):
            rows = [[chance.randint(-THIRTY, THIRTY) for j in range(6)] for i in range(7)]
            self.told([chance.randint(-THIRTY, THIRTY) for j in range(6)], rows,
                      [chance.randint(-THIRTY // 3, THIRTY) for i in range(7)])


class NoProgramTest(unittest.TestCase):
    def refused(self, goal, rows, limits):
        before = copy.deepcopy((goal, rows, limits))
        with self.assertRaises(NoProgram):
            best_of(goal, rows, limits)
        self.assertEqual((goal, rows, limits), before)

    def test_rows_that_are_not_as_long_as_the_goal(self):
        for rows in ([[1]], [[1, 2, 3]], [[1, 2], [1]], [[1, 2], [], [1, 2]], [[]]):
            self.refused([1, 2], rows, [1] * len(rows))
        self.refused([], [[1]], [1])
        self.refused([], [[], [1]], [1, 1])

    def test_another_count_of_limits(self):
        self.refused([1], [[1], [2]], [1])
        self.refused([1], [[1], [2]], [1, 2, 3])
        self.refused([1], [], [1])
        self.refused([1], [[1]], [])
        self.refused([], [[]], [])

    def test_beyond_forty_eight(self):
        self.refused([1] * 49, [], [])
        self.refused([1] * 49, [[1] * 49], [1])
        self.refused([1], [[1]] * 49, [1] * 49)
        self.refused([], [[]] * 49, [1] * 49)
        self.assertEqual(best_of([1], [[1]] * 48, list(range(1, 49)))[1], (1, 1))
        self.assertEqual(best_of([1] * 48, [[1] * 48], [1])[1], (1, 1))
        self.assertEqual(best_of([], [[]] * 48, [0] * 48)[1], (0, 1))

    def test_it_is_a_refusal(self):
        with self.assertRaises(FitError):
            best_of([1], [[]], [1])


if __name__ == "__main__":
    unittest.main()
