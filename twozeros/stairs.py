"""Stairs of matrices, and the lists of rests that solve systems."""

from math import gcd

from twozeros.errors import BadRows, BadWidth, TooLarge
from twozeros.kinds import is_from, is_whole
from twozeros.matrices import Diagonal, frozen, identity, times_column, times_matrix
from twozeros.words import most_value

MOST_ROWS = 8
MOST_COLUMNS = 6
MOST_IN_ROW = 10 ** 6
MOST_CONSTANT = 10 ** 40
MOST_COUNTED = 400
MOST_LISTED = 4096
MOST_LENGTH = 5040


class Stairs:
    """How a matrix is brought to its divisors, and back."""

    def __init__(self, left, right, left_back, right_back, divisors):
        self.left = left
        self.right = right
        self.left_back = left_back
        self.right_back = right_back
        self._divisors = divisors

    @property
    def divisors(self):
        """What stands on the diagonal then."""
        return self._divisors


def stairs(rows):
    """Stairs of the matrix of these rows."""
    check_rows(rows)
    return found_stairs(rows)


def is_stairs(rows, thing):
    """Whether any value is stairs of the matrix of these rows."""
    check_rows(rows)
    return are_stairs(rows, thing)


def solutions(rows, constants, width):
    """How many lists of rests solve the system."""
    most = checked_system(rows, constants, width)
    made = found_stairs(rows)
    return many_lists(made.divisors, times_column(made.left, constants), len(rows[0]), most)


def solution(rows, constants, width):
    """A list of rests that solves the system, None if there is none."""
    most = checked_system(rows, constants, width)
    made = found_stairs(rows)
    inner = inner_solution(made.divisors, times_column(made.left, constants), len(rows[0]), most)
    return None if inner is None else outer_rests(made.right, inner, most)


def listed(rows, constants, width):
    """All lists of rests that solve the system, ascending."""
    most = checked_system(rows, constants, width)
    made = found_stairs(rows)
    shifted = times_column(made.left, constants)
    if many_lists(made.divisors, shifted, len(rows[0]), most) > MOST_LISTED:
        raise TooLarge("solutions", MOST_LISTED)
    inner = inner_solution(made.divisors, shifted, len(rows[0]), most)
    if inner is None:
        return []
    found = [inner]
    for at in range(len(rows[0])):
        many = inner_many(made.divisors, at, most)
        turns = [turn * (most // many) for turn in range(many)]
        found = [row[:at] + [(row[at] + turn) % most] + row[at + 1:] for row in found for turn in turns]
    codes = [coded(outer_rests(made.right, row, most), most) for row in found]
    return [decoded(code, len(rows[0]), most) for code in sorted(codes, key=int)]


def order_of(number):
    """The least k from 1 on such that the odd number divides 2 ** k - 1."""
    rest = 1 % number
    for length in range(1, MOST_LENGTH + 1):
        rest = 2 * rest % number
        if (rest - 1) % number == 0:
            return length
    raise TooLarge("length", MOST_LENGTH)


def shared(number, width):
    """The greatest common divisor of the number and 2 ** width - 1."""
    rest = 1
    bits = f"{width:b}"
    for bit in bits:
        rest = rest * rest * (2 if bit == "1" else 1) % number
    return gcd(number, rest - 1)


def check_rows(rows):
    """Raise an error if rows, any value, are not rows of a matrix."""
    if not isinstance(rows, (list, tuple)) or not 1 <= len(rows) <= MOST_ROWS:
        raise BadRows(None)
    for at, row in enumerate(rows):
        if not is_row(row) or len(row) != len(rows[0]):
            raise BadRows(at)


def is_row(row):
    """Whether any value is a row of a matrix."""
    if not isinstance(row, (list, tuple)) or len(row) > MOST_COLUMNS:
        return False
    return all([is_from(worth, -MOST_IN_ROW, MOST_IN_ROW) for worth in row])


def checked_system(rows, constants, width):
    """M at this width, if all three, any values, are those of a system."""
    check_rows(rows)
    if not isinstance(constants, (list, tuple)) or len(constants) != len(rows):
        raise BadRows(len(rows))
    if not all([is_from(worth, -MOST_CONSTANT, MOST_CONSTANT) for worth in constants]):
        raise BadRows(len(rows))
    return most_value(counted_width(width))


def counted_width(width):
    """The width, any value, if lists can be counted at it."""
    if not is_from(width, 1, MOST_COUNTED):
        raise BadWidth(width)
    return width


def found_stairs(rows):
    """Stairs of the matrix of these rows, of any number and length."""
    work = Diagonal(rows)
    divisors = work.found_divisors()
    return Stairs(frozen(work.left), frozen(work.right), frozen(work.left_back), frozen(work.right_back), divisors)


def are_stairs(rows, thing):
    """Whether any value is stairs of the matrix of these rows, of any number and length."""
    if not isinstance(thing, Stairs) or not are_divisors(thing.divisors):
        return False
    height, breadth = len(rows), len(rows[0])
    if not is_square(thing.left, height) or not is_square(thing.left_back, height):
        return False
    if not is_square(thing.right, breadth) or not is_square(thing.right_back, breadth):
        return False
    if times_matrix(thing.left, thing.left_back, height) != identity(height):
        return False
    if times_matrix(thing.right, thing.right_back, breadth) != identity(breadth):
        return False
    reached = times_matrix(times_matrix(thing.left, rows, breadth), thing.right, breadth)
    fits = len(thing.divisors) <= height and len(thing.divisors) <= breadth
    return fits and reached == on_diagonal(thing.divisors, height, breadth)


def are_divisors(value):
    """Whether any value is a tuple of integers from 1 on, of which each divides the next one."""
    if not isinstance(value, tuple) or not all([is_whole(worth) and worth >= 1 for worth in value]):
        return False
    return all([other % one == 0 for one, other in zip(value, value[1:])])


def is_square(value, size):
    """Whether any value is a square matrix of this size, made of tuples of integers."""
    if not isinstance(value, tuple) or len(value) != size:
        return False
    rows = [isinstance(row, tuple) and len(row) == size and all([is_whole(worth) for worth in row]) for row in value]
    return all(rows)


def on_diagonal(divisors, height, breadth):
    """The matrix with the divisors on its diagonal and zeros everywhere else."""
    found = [[0] * breadth for _ in range(height)]
    for at, divisor in enumerate(divisors):
        found[at][at] = divisor
    return found


def many_lists(divisors, shifted, columns, most):
    """How many lists of so many rests solve a system, by its divisors and the constants that its left side gives."""
    product = 1
    for at, constant in enumerate(shifted):
        common = inner_many(divisors, at, most)
        if constant % common != 0:
            return 0
        if at < len(divisors):
            product = product * common
    for _ in range(columns - len(divisors)):
        product = product * most
    return product


def inner_solution(divisors, shifted, columns, most):
    """The y of [6.4] of one list that solves a system, None if there is none."""
    if many_lists(divisors, shifted, columns, most) == 0:
        return None
    inner = [0] * columns
    for at, divisor in enumerate(divisors):
        common = gcd(divisor, most)
        part = most // common
        inner[at] = -(shifted[at] // common) * inverse(divisor // common, part) % part
    return inner


def inner_many(divisors, at, most):
    """How many values the y at this index can have: each of them can be moved by steps of M over this number."""
    return gcd(divisors[at], most) if at < len(divisors) else most


def outer_rests(right, inner, most):
    """The rests that belong to a y."""
    return [worth % most for worth in times_column(right, inner)]


def inverse(number, most):
    """What gives 1, or at most 1 the rest 0, times a number without a common divisor."""
    one, other = number % most, most
    times_one, times_other = 1, 0
    while one != 0:
        quotient = other // one
        one, other = other - quotient * one, one
        times_one, times_other = times_other - quotient * times_one, times_one
    return times_other % most


def coded(rests, most):
    """A number for a list of rests, in the order of such lists."""
    code = 0
    for rest in rests:
        code = code * most + rest
    return code


def decoded(code, columns, most):
    """The list of so many rests with this number."""
    rests = []
    left = code
    for _ in range(columns):
        rests.append(left % most)
        left = left // most
    return rests[::-1]
