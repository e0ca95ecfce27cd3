import unittest
from itertools import combinations
from math import gcd

from tests.trees import chances
from tests.values import no_integers, raised
from twozeros.errors import BadRows
from twozeros.formulas import named
from twozeros.stairs import Stairs, is_stairs, stairs
from twozeros.words import Word

PARTS = ("left", "right", "left_back", "right_back", "divisors")


def random_rows(chance, height, breadth, most):
    """Rows of any rank: some of them sums of others, some of zeros."""
    rows = [[chance.randint(-most, most) for _ in range(breadth)] for _ in range(height)]
    for at in range(1, height):
        fate = chance.random()
        if fate < 0.2:
            rows[at] = [chance.choice([-1, 1, 2]) * worth // 2 * 2 % (most + 1) for worth in rows[chance.randrange(at)]]
        elif fate < 0.3:
            rows[at] = [0] * breadth
        elif fate < 0.4:
            rows[at] = [-worth for worth in rows[at - 1]]
    if breadth and chance.random() < 0.2:
        column = chance.randrange(breadth)
        rows = [[0 if at == column else worth for at, worth in enumerate(row)] for row in rows]
    return rows


def matrices(seed, many=250):
    chance = chances(seed)
    yield from ([[]], [[], []], [[]] * 8, [[0]], [[0, 0], [0, 0]], [[0] * 6] * 8, [[1]], [[-5]], [[2, 4], [6, 8]])
    for height in range(1, 9):
        for breadth in range(7):
            yield random_rows(chance, height, breadth, 9)
    for _ in range(many):
        most = chance.choice([1, 2, 3, 12, 1000, 10 ** 6])
        yield random_rows(chance, chance.randint(1, 8), chance.randint(0, 6), most)


def product(left, right, columns):
    return [[sum(row[at] * right[at][column] for at in range(len(right))) for column in range(columns)] for row in left]


def identity(size):
    return [[int(row == column) for column in range(size)] for row in range(size)]


def determinant(rows):
    if not rows:
        return 1
    top, *others = rows
    return sum(
        (-1) ** at * worth * determinant([row[:at] + row[at + 1:] for row in others])
        for at, worth in enumerate(top) if worth
    )


def common_minor(rows, size):
    found = 0
    for chosen in combinations(rows, size):
        for columns in combinations(range(len(rows[0])), size):
            found = gcd(found, determinant([[row[at] for at in columns] for row in chosen]))
    return found


def parts_of(made):
    return [getattr(made, name) for name in PARTS]


class Made(unittest.TestCase):
    def test_what_stairs_are(self):
        for rows in matrices(81):
            made = stairs(rows)
            height, breadth = len(rows), len(rows[0])
            self.assertIs(type(made), Stairs)
            self.assertEqual(product(made.left, made.left_back, height), identity(height))
            self.assertEqual(product(made.right, made.right_back, breadth), identity(breadth))
            reached = product(product(made.left, rows, breadth), made.right, breadth)
            divisors = made.divisors
            self.assertEqual(reached, [
                [divisors[row] if row == column and row < len(divisors) else 0 for column in range(breadth)]
                for row in range(height)
            ])
            self.assertTrue(all(divisor >= 1 for divisor in divisors))
            self.assertTrue(all(after % before == 0 for before, after in zip(divisors, divisors[1:])))
            self.check_kinds(made, height, breadth)

    def check_kinds(self, made, height, breadth):
        for matrix, size in zip(parts_of(made), (height, breadth, height, breadth)):
            self.assertIs(type(matrix), tuple)
            self.assertEqual(len(matrix), size)
            for row in matrix:
                self.assertIs(type(row), tuple)
                self.assertEqual([type(worth) for worth in row], [int] * size)
                self.assertTrue(all(abs(worth) < 10 ** 4000 for worth in row))
        self.assertIs(type(made.divisors), tuple)
        self.assertEqual([type(divisor) for divisor in made.divisors], [int] * len(made.divisors))

    def test_divisors_against_minors(self):
        chance = chances(82)
        for _ in range(120):
            rows = random_rows(chance, chance.randint(1, 4), chance.randint(0, 4), chance.choice([1, 3, 12, 1000]))
            self.check_minors(rows)
        self.check_minors(random_rows(chance, 8, 3, 1000))
        self.check_minors(random_rows(chance, 5, 6, 10 ** 6))

    def check_minors(self, rows):
        product_so_far = 1
        divisors = stairs(rows).divisors
        for size, divisor in enumerate(divisors, start=1):
            product_so_far *= divisor
            self.assertEqual(common_minor(rows, size), product_so_far, rows)
        if len(divisors) < min(len(rows), len(rows[0])):
            self.assertEqual(common_minor(rows, len(divisors) + 1), 0)

    def test_lists_and_tuples_and_equal_arguments(self):
        rows = [[3, 6, 1], [2, 2, 8]]
        frozen = tuple(tuple(row) for row in rows)
        found = [parts_of(stairs(told)) for told in (rows, frozen, [list(row) for row in rows], list(frozen), tuple(rows))]
        self.assertEqual(found, [found[0]] * 5)
        self.assertEqual(rows, [[3, 6, 1], [2, 2, 8]])

    def test_keeps_its_arguments(self):
        told = [None, [1], "x", (True,), {"a": 1}]
        self.assertEqual(parts_of(Stairs(*told)), told)
        made = Stairs(left=1, right=2, left_back=3, right_back=4, divisors=5)
        self.assertEqual(parts_of(made), [1, 2, 3, 4, 5])

    def test_equal_to_nothing_else(self):
        for value in no_integers() + [1, ((1,),), Word(4, 1)]:
            if not isinstance(value, Stairs):
                self.assertIs(stairs([[1]]) == value, False)
                self.assertIs(value == stairs([[1]]), False)


class Checked(unittest.TestCase):
    def test_what_stairs_returns(self):
        for rows in matrices(83, 80):
            made = stairs(rows)
            self.assertIs(is_stairs(rows, made), True)
            self.assertIs(is_stairs(tuple(tuple(row) for row in rows), Stairs(*parts_of(made))), True)

    def test_other_stairs(self):
        rows = [[3]]
        self.assertIs(is_stairs(rows, Stairs(((-1,),), ((-1,),), ((-1,),), ((-1,),), (3,))), True)
        self.assertIs(is_stairs(rows, Stairs(((-1,),), ((1,),), ((-1,),), ((1,),), (3,))), False)
        far = 10 ** 5000
        left, left_back = ((1, far), (0, 1)), ((1, -far), (0, 1))
        self.assertIs(is_stairs([[1], [0]], Stairs(left, ((1,),), left_back, ((1,),), (1,))), True)
        self.assertIs(is_stairs([[1], [0]], Stairs(left, ((1,),), ((1, far), (0, 1)), ((1,),), (1,))), False)

    def test_one_integer_changed(self):
        chance = chances(84)
        for rows in matrices(85, 40):
            parts = parts_of(stairs(rows))
            for at in range(4):
                for row in range(len(parts[at])):
                    for column in range(len(parts[at])):
                        changed = [list(line) for line in parts[at]]
                        changed[row][column] += chance.choice([-1, 1, 2, -7, 10 ** 30])
                        spoiled = parts[:at] + [tuple(tuple(line) for line in changed)] + parts[at + 1:]
                        self.assertIs(is_stairs(rows, Stairs(*spoiled)), False)
            for at, divisor in enumerate(parts[4]):
                for other in {0, -divisor, divisor + 1, divisor * 2, 1} - {divisor}:
                    spoiled = parts[:4] + [(*parts[4][:at], other, *parts[4][at + 1:])]
                    self.assertIs(is_stairs(rows, Stairs(*spoiled)), False)

    def test_an_integer_of_the_rows_changed(self):
        for rows in matrices(86, 40):
            made = stairs(rows)
            for at, row in enumerate(rows):
                for column in range(len(row)):
                    worth = row[column] + 1 if row[column] < 10 ** 6 else 0
                    changed = [list(line) for line in rows]
                    changed[at][column] = worth
                    self.assertIs(is_stairs(changed, made), False)

    def test_other_divisors(self):
        rows = [[1, 0], [0, 6]]
        parts = parts_of(stairs(rows))
        for divisors in ((), (1,), (6,), (6, 1), (2, 3), (1, 6, 6), (1, -6), (-1, 6), (1, 6, 0), (0, 6), [1, 6], (True, 6)):
            self.assertIs(is_stairs(rows, Stairs(*parts[:4], divisors)), False, divisors)
        one = ((1, 0), (0, 1))
        for rows, divisors, wanted in (
            ([[2, 0], [0, 3]], (2, 3), False), ([[6, 0], [0, 1]], (6, 1), False), ([[1, 0], [0, -6]], (1, -6), False),
            ([[1, 0], [0, 0]], (1, 0), False), ([[1, 0], [0, 0]], (1,), True), ([[0, 0], [0, 0]], (), True),
            ([[2, 0], [0, 2]], (2, 2), True), ([[2, 0], [0, 2]], (2,), False), ([[0, 0], [0, 1]], (1,), False),
        ):
            self.assertIs(is_stairs(rows, Stairs(one, one, one, one, divisors)), wanted, (rows, divisors))

    def test_more_divisors_than_rows_or_columns(self):
        self.assertIs(is_stairs([[1, 0]], Stairs(((1,),), ((1, 0), (0, 1)), ((1,),), ((1, 0), (0, 1)), (1, 1))), False)
        self.assertIs(is_stairs([[1], [0]], Stairs(((1, 0), (0, 1)), ((1,),), ((1, 0), (0, 1)), ((1,),), (1, 1))), False)
        self.assertIs(is_stairs([[]], Stairs(((1,),), (), ((1,),), (), (1,))), False)
        self.assertIs(is_stairs([[]], Stairs(((1,),), (), ((1,),), (), ())), True)

    def test_parts_of_other_kinds(self):
        rows = [[1, 2], [2, 1]]
        parts = parts_of(stairs(rows))
        wrong = no_integers() + [0, 3, (), ((),), ((1, 0),), ((1, 0), (0,)), ((1, 0), (0, 1), (0, 0)), Word(4, 1)]
        for at in range(5):
            for value in wrong + [list(parts[at]), [list(row) for row in parts[at]] if at < 4 else [1, 3]]:
                spoiled = parts[:at] + [value] + parts[at + 1:]
                self.assertIs(is_stairs(rows, Stairs(*spoiled)), False, (at, value))
        for at in range(4):
            for row in range(2):
                for value in wrong:
                    changed = list(parts[at])
                    changed[row] = value if not isinstance(value, tuple) or len(value) != 2 else list(parts[at][row])
                    self.assertIs(is_stairs(rows, Stairs(*parts[:at], tuple(changed), *parts[at + 1:])), False)
                    mixed = (value, parts[at][row][1])
                    changed[row] = mixed if value != parts[at][row][0] or value is True else "x"
                    self.assertIs(is_stairs(rows, Stairs(*parts[:at], tuple(changed), *parts[at + 1:])), False)

    def test_bools_are_no_integers(self):
        one = ((1,),)
        for parts in (
            (((True,),), one, one, one, (1,)), (one, ((True,),), one, one, (1,)), (one, one, ((True,),), one, (1,)),
            (one, one, one, ((True,),), (1,)), (one, one, one, one, (True,)),
        ):
            self.assertIs(is_stairs([[1]], Stairs(*parts)), False)

    def test_any_value(self):
        made = stairs([[1]])
        for value in no_integers() + [0, 1, parts_of(made), tuple(parts_of(made)), ((1,),), Stairs, named("a"), Word(4, 1)]:
            if not (isinstance(value, Stairs) and parts_of(value) == parts_of(made)):
                self.assertIs(is_stairs([[1]], value), False)
        self.assertIs(is_stairs(rows=[[1]], thing=made), True)


class WrongRows(unittest.TestCase):
    """Each function that takes rows refuses the same ones; those with constants are tested beside them."""

    def refused(self, rows, at):
        raised(self, BadRows, lambda: stairs(rows), at=at)
        raised(self, BadRows, lambda: is_stairs(rows, None), at=at)

    def test_no_rows(self):
        for rows in no_integers() + [0, 3, [[1]] * 9, ([1],) * 9, Word(4, 1)]:
            if not isinstance(rows, (list, tuple)) or len(rows) in (0, 9):
                self.refused(rows, None)

    def test_rows_that_are_none(self):
        for value in no_integers() + [0, 7, Word(4, 1)]:
            if not isinstance(value, (list, tuple)) or not all(type(worth) is int for worth in value):
                self.refused([value], 0)
                self.refused([value, value], 0)
                self.refused(([1, 2], [3, 4], value), 2)

    def test_integers(self):
        for value in no_integers() + [10 ** 6 + 1, -10 ** 6 - 1, 10 ** 30, Word(4, 1)]:
            self.refused([[value]], 0)
            self.refused([[1, 2], (3, value), [None, 4]], 1)
            self.refused(([1, 2, 3], [1, 2, 3], [value, 2, 3]), 2)
        self.assertEqual(stairs([[10 ** 6, -10 ** 6]]).divisors, (10 ** 6,))

    def test_lengths(self):
        self.refused([[1], [1, 2]], 1)
        self.refused([[1, 2], [1, 2], [1], [1, 2, 3]], 2)
        self.refused([[], [1]], 1)
        self.refused([[1], []], 1)
        self.refused([[1] * 7], 0)
        self.refused([[1] * 7, [1] * 7], 0)
        self.refused([[1] * 6, [1] * 7], 1)
        self.refused([[1] * 7, [1]], 0)
        self.assertEqual(stairs([[1] * 6] * 8).divisors, (1,))


if __name__ == "__main__":
    unittest.main()
