"""Matrices of integers as lists of rows, and how they are brought to a diagonal."""


def identity(size):
    """The square matrix that changes nothing."""
    return [[1 if row == column else 0 for column in range(size)] for row in range(size)]


def times_column(matrix, column):
    """The products of the rows with a column."""
    return [sum([one * other for one, other in zip(row, column)]) for row in matrix]


def times_matrix(left, right, columns):
    """The product of two matrices; the right one has so many columns, perhaps without a row that shows it."""
    turned = [[row[at] for row in right] for at in range(columns)]
    return [times_column(turned, row) for row in left]


def frozen(matrix):
    """The matrix as a tuple of tuples."""
    return tuple([tuple(row) for row in matrix])


class Diagonal:
    """A matrix that is brought to a diagonal step by step, with all that was done to its rows and columns.

    At each time left * first matrix * right is the matrix, and left_back and right_back undo left and right.
    """

    def __init__(self, rows):
        self.matrix = [list(row) for row in rows]
        self.many_rows = len(self.matrix)
        self.many_columns = len(self.matrix[0])
        self.left = identity(self.many_rows)
        self.left_back = identity(self.many_rows)
        self.right = identity(self.many_columns)
        self.right_back = identity(self.many_columns)

    def found_divisors(self):
        """Bring the matrix to the diagonal of divisors, and return these."""
        place = 0
        while self.take_pivot(place):
            place = place + 1
        return tuple([self.matrix[at][at] for at in range(place)])

    def take_pivot(self, place):
        """Bring a divisor to this place of the diagonal; False if nothing but zeros is left."""
        at = self.least_at(place)
        if at is None:
            return False
        while at is not None:
            self.move_pivot(place, at)
            at = self.next_at(place)
        if self.matrix[place][place] < 0:
            self.negate_row(place)
        return True

    def least_at(self, place):
        """Where the integer next to 0, but not 0, stands from this place on; None if there is none."""
        best = None
        least = 0
        for row in range(place, self.many_rows):
            for column in range(place, self.many_columns):
                size = abs(self.matrix[row][column])
                if size != 0 and (best is None or size < least):
                    best = (row, column)
                    least = size
        return best

    def move_pivot(self, place, at):
        """Exchange rows and columns so that what stands at a row and a column comes to this place."""
        row, column = at
        if row != place:
            self.exchange_rows(row, place)
        if column != place:
            self.exchange_columns(column, place)

    def next_at(self, place):
        """Take the pivot off all others as often as it goes; where a lesser one is left then, None if nowhere."""
        pivot = self.matrix[place][place]
        for row in range(place + 1, self.many_rows):
            self.take_row(row, place, nearest(self.matrix[row][place], pivot))
        for column in range(place + 1, self.many_columns):
            self.take_column(column, place, nearest(self.matrix[place][column], pivot))
        left_over = self.cross_at(place)
        if left_over is not None:
            return left_over
        for row in range(place + 1, self.many_rows):
            if any([worth % pivot != 0 for worth in self.matrix[row][place + 1:]]):
                # The row of the pivot has only zeros beside it, so the pivot stays, and the row comes to it.
                self.take_row(place, row, -1)
                return self.next_at(place)
        return None

    def cross_at(self, place):
        """Where the least integer but 0 stands in the row and column of a place, beside it; None if there is none."""
        best = None
        least = 0
        cross = [(row, place) for row in range(place + 1, self.many_rows)]
        cross = cross + [(place, column) for column in range(place + 1, self.many_columns)]
        for row, column in cross:
            size = abs(self.matrix[row][column])
            if size != 0 and (best is None or size < least):
                best = (row, column)
                least = size
        return best

    def exchange_rows(self, one, other):
        exchange_rows(self.matrix, one, other)
        exchange_rows(self.left, one, other)
        exchange_columns(self.left_back, one, other)

    def exchange_columns(self, one, other):
        exchange_columns(self.matrix, one, other)
        exchange_columns(self.right, one, other)
        exchange_rows(self.right_back, one, other)

    def negate_row(self, at):
        take_off_row(self.matrix, at, at, 2)
        take_off_row(self.left, at, at, 2)
        take_off_column(self.left_back, at, at, 2)

    def take_row(self, at, other, times):
        """Take another row off this one so many times."""
        take_off_row(self.matrix, at, other, times)
        take_off_row(self.left, at, other, times)
        take_off_column(self.left_back, other, at, -times)

    def take_column(self, at, other, times):
        """Take another column off this one so many times."""
        take_off_column(self.matrix, at, other, times)
        take_off_column(self.right, at, other, times)
        take_off_row(self.right_back, other, at, -times)


def exchange_rows(matrix, one, other):
    """Exchange two rows of the matrix."""
    matrix[one], matrix[other] = matrix[other], matrix[one]


def exchange_columns(matrix, one, other):
    """Exchange two columns of the matrix."""
    for row in matrix:
        row[one], row[other] = row[other], row[one]


def take_off_row(matrix, at, other, times):
    """Take a row, so many times, off the row at this place."""
    if times != 0:
        matrix[at] = [one - times * two for one, two in zip(matrix[at], matrix[other])]


def take_off_column(matrix, at, other, times):
    """Take a column, so many times, off the column at this place."""
    if times != 0:
        for row in matrix:
            row[at] = row[at] - times * row[other]


def nearest(number, divisor):
    """The quotient whose remainder is nearest to 0, which keeps integers short."""
    return (2 * number + abs(divisor)) // (2 * abs(divisor)) * (1 if divisor > 0 else -1)
