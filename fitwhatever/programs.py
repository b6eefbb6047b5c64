"""Programs: of all points that keep rows and limits, one that has the greatest sum of products with a goal."""

from fitwhatever.errors import NoProgram
from fitwhatever.numbers import ONE, ZERO, lowest_terms

MOST_LONG = 48

# The number of one unknown more, by which a first point is looked for: no other unknown has it.
HELPER = -1


def best_of(goal, rows, limits):
    """What is told of a program: best, open or none, each with its paper."""
    if len(goal) > MOST_LONG or len(rows) > MOST_LONG:
        raise NoProgram("a goal has at most forty-eight numbers, and there are at most forty-eight rows")
    if len(limits) != len(rows):
        raise NoProgram("there is one limit for each row")
    if any([len(row) != len(goal) for row in rows]):
        raise NoProgram("the rows are as long as the goal")
    return solved(goal, rows, limits)


def solved(goal, rows, limits):
    """What is told of a program, however long."""
    board = Board(goal, rows, limits)
    if any([limit < 0 for limit in limits]):
        prices = find_point(board)
        if prices is not None:
            return ("none", prices)
    return climbed(board)


class Board:
    """A program solved for some of its unknowns: each row tells its own one by those of the columns.

    The unknowns are the numbers of a point and, behind them, what each row's sum is below its limit. The last column
    holds the values of the rows' own unknowns while the columns' are 0, the last row the goal. The whole numbers of
    the grid are tops, the scale is their one bottom, above 0.
    """

    def __init__(self, goal, rows, limits):
        self.long = len(goal)
        self.many = len(rows)
        self.scale = 1
        self.across = list(range(self.long))
        self.down = list(range(self.long, self.long + self.many))
        self.grid = [list(row) + [limit] for row, limit in zip(rows, limits)]
        self.grid.append([-value for value in goal] + [0])

    def turn(self, at, column):
        """Let a row's own unknown and a column's change places."""
        pivot_row = self.grid[at]
        turned = [turned_row(row, pivot_row, column, self.scale) for row in self.grid]
        turned[at] = list(pivot_row)
        turned[at][column] = self.scale
        self.scale = pivot_row[column]
        self.grid = turned
        if self.scale < 0:
            self.scale = -self.scale
            self.grid = [negative_row(row) for row in turned]
        name = self.across[column]
        self.across[column] = self.down[at]
        self.down[at] = name

    def top_of(self, at, name):
        """What a row has of an unknown, be it a column's or a row's own."""
        if name in self.across:
            return self.grid[at][self.across.index(name)]
        return self.scale if self.down[at] == name else 0

    def stride(self, column):
        """How far all unknowns go together when a column's grows by 1, squared, and times the scale's square."""
        return self.scale * self.scale + sum([row[column] * row[column] for row in self.grid[:-1]])

    def put_helper(self):
        """Put a column by which each row may be above its limit."""
        self.across.append(HELPER)
        goal = self.grid[-1]
        self.grid = [row[:-1] + [-1] + row[-1:] for row in self.grid[:-1]]
        self.grid.append(goal[:-1] + [0] + goal[-1:])

    def drop_helper(self):
        """Leave out the column by which each row may be above its limit."""
        at = self.across.index(HELPER)
        self.across.pop(at)
        self.grid = [row[:at] + row[at + 1:] for row in self.grid]

    def point(self):
        """The point at which the columns' unknowns are 0."""
        return self.spread_down([row[-1] for row in self.grid])

    def way(self, column):
        """How a point goes on when a column's unknown grows by 1."""
        told = list(self.spread_down([-row[column] for row in self.grid]))
        if self.across[column] < self.long:
            told[self.across[column]] = ONE
        return tuple(told)

    def spread_down(self, tops):
        """The numbers of a point, from what the rows have for their own unknowns."""
        told = [ZERO for k in range(self.long)]
        for name, top in zip(self.down, tops):
            if name < self.long:
                told[name] = lowest_terms(top, self.scale)
        return tuple(told)

    def prices(self, tops):
        """The prices of the program's rows, from what their unknowns' columns have."""
        told = [ZERO for k in range(self.many)]
        for name, top in zip(self.across, tops):
            if name >= self.long:
                told[name - self.long] = lowest_terms(top, self.scale)
        return tuple(told)


def negative_row(row):
    """The row times -1."""
    return [-value for value in row]


def turned_row(row, pivot_row, column, scale):
    """What becomes of another row than the pivot's by a turn."""
    pivot = pivot_row[column]
    factor = row[column]
    # Nothing is left over here: over the scale all numbers are determinants of the program's own ones.
    if factor == 0:
        return [pivot * value // scale for value in row]
    turned = [(pivot * value - factor * other) // scale for value, other in zip(row, pivot_row)]
    turned[column] = -factor
    return turned


def gaining_column(board, gains):
    """Of the columns that gain, the one that gains most for how far all unknowns go; None where none gains."""
    found = None
    steepest = (0, 1)
    for k, gain in enumerate(gains):
        if gain > 0:
            # Squares, as no root is needed to tell which one is steeper.
            slope = (gain * gain, board.stride(k))
            if slope[0] * steepest[1] > steepest[0] * slope[1]:
                found = k
                steepest = slope
    return found


def binding_row(board, column):
    """The row that binds first when a column's unknown grows; None where none does."""
    found = None
    for k in range(board.many):
        if board.grid[k][column] > 0 and (found is None or binds_before(board, k, found, column)):
            found = k
    return found


def binds_before(board, one, other, column):
    """Whether of two rows that bind when a column's unknown grows the one does so first."""
    sooner = board.grid[one][-1] * board.grid[other][column]
    later = board.grid[other][-1] * board.grid[one][column]
    if sooner != later:
        return sooner < later
    # As if each limit were raised by a little, and each one's by far less than the one's ahead of it: so no two rows
    # bind alike, each turn gains something, and the turns never go round.
    for name in range(board.long, board.long + board.many):
        sooner = board.top_of(one, name) * board.grid[other][column]
        later = board.top_of(other, name) * board.grid[one][column]
        if sooner != later:
            return sooner < later
    return False


def last_least(limits):
    """Where the least limit stands, the last time."""
    least = min(limits)
    return max([k for k, limit in enumerate(limits) if limit == least])


def find_point(board):
    """Turn a board to values from 0 on, and tell None; where there are none, tell prices that show it."""
    board.put_helper()
    # The last of several, as the raised limits of the others are above its own.
    board.turn(last_least([row[-1] for row in board.grid[:-1]]), len(board.across) - 1)
    while HELPER in board.down:
        row = board.grid[board.down.index(HELPER)]
        column = gaining_column(board, row[:-1])
        if column is None:
            return board.prices(negative_row(row))
        # The helper's own row binds, so there is one.
        board.turn(binding_row(board, column), column)
    board.drop_helper()
    return None


def climbed(board):
    """What is told of a program by a board with values from 0 on: best or open."""
    while True:
        column = gaining_column(board, negative_row(board.grid[-1][:-1]))
        if column is None:
            value = lowest_terms(board.grid[-1][-1], board.scale)
            return ("best", value, board.point(), board.prices(board.grid[-1]))
        at = binding_row(board, column)
        if at is None:
            return ("open", board.point(), board.way(column))
        board.turn(at, column)
