"""Systems: how many lists of rests solve them, and which; orders of 2 and shared divisors."""

import unittest
from itertools import product
from math import gcd

from tests.test_stairs import random_rows
from tests.trees import chances
from tests.values import no_integers, raised
from twozeros.errors import BadRows, BadWidth, TooLarge
from twozeros.stairs import listed, order_of, shared, solution, solutions
from twozeros.words import Word

ASKED = (solutions, solution, listed)


def solves(rows, constants, width, rests):
    most = 2 ** width - 1
    return all(
        (sum(worth * rest for worth, rest in zip(row, rests)) + constant) % most == 0
        for row, constant in zip(rows, constants)
    )


def tried(rows, constants, width):
    """All lists of rests that solve the system, by going through all of them."""
    rests = product(range(2 ** width - 1), repeat=len(rows[0]))
    return [list(row) for row in rests if solves(rows, constants, width, row)]


class Small(unittest.TestCase):
    def check(self, rows, constants, width):
        wanted = tried(rows, constants, width)
        self.assertEqual(solutions(rows, constants, width), len(wanted), (rows, constants, width))
        self.assertEqual(listed(rows, constants, width), wanted, (rows, constants, width))
        found = solution(rows, constants, width)
        self.assertEqual(found in wanted, bool(wanted))
        self.assertIs(found is None, not wanted)
        self.assertEqual(solution(tuple(tuple(row) for row in rows), tuple(constants), width), found)

    def test_all_rests(self):
        chance = chances(91)
        for _ in range(600):
            breadth = chance.randint(0, 4)
            width = chance.randint(1, {0: 8, 1: 8, 2: 4, 3: 3, 4: 2}[breadth])
            rows = random_rows(chance, chance.randint(1, 5), breadth, chance.choice([1, 3, 12, 45, 10 ** 6]))
            hidden = [chance.randrange(2 ** width - 1) for _ in range(breadth)]
            if chance.random() < 0.6:
                constants = [-sum(worth * rest for worth, rest in zip(row, hidden)) for row in rows]
                constants = [worth + chance.choice([0, 2 ** width - 1, 1 - 2 ** width]) for worth in constants]
            else:
                constants = [chance.choice([0, 1, -3, 15, 63, 10 ** 40, -10 ** 40]) for _ in rows]
            self.check(rows, constants, width)

    def test_without_columns(self):
        for width in (1, 2, 3, 4):
            for constants in ([0], [1], [3], [7], [-15], [6, 3], [6, 7], [0] * 8):
                self.check([[]] * len(constants), constants, width)

    def test_width_one(self):
        for rows, constants in (([[3, 5]], [7]), ([[0] * 6] * 8, [1] * 8), ([[]], [5])):
            self.assertEqual(solutions(rows, constants, 1), 1)
            self.assertEqual(solution(rows, constants, 1), [0] * len(rows[0]))
            self.assertEqual(listed(rows, constants, 1), [[0] * len(rows[0])])


class Wide(unittest.TestCase):
    def test_at_the_width_400(self):
        most = 2 ** 400 - 1
        rows, constants = [[3, 1], [0, 5]], [-1, 10]
        self.assertEqual(solutions(rows, constants, 400), 15)
        self.assertTrue(solves(rows, constants, 400, solution(rows, constants, 400)))
        found = listed(rows, constants, 400)
        self.assertEqual((len(found), found), (15, sorted(found)))
        self.assertEqual(len({tuple(row) for row in found}), 15)
        for row in found:
            self.assertTrue(solves(rows, constants, 400, row))
            self.assertTrue(all(type(rest) is int and 0 <= rest < most for rest in row))
        self.assertEqual(solutions([[1, 1, 1]], [4], 400), most ** 2)
        self.assertEqual(solutions([[0, 0, 0]], [0], 400), most ** 3)
        self.assertEqual(solutions([[0, 0, 0]], [1], 400), 0)
        self.assertEqual(solutions([[15, 0], [0, 15]], [3, 0], 400), 0)
        self.assertEqual([solution([[15]], [3], 400), listed([[0, 0]], [1], 400)], [None, []])

    def test_hidden_rests(self):
        chance = chances(92)
        for _ in range(150):
            width, breadth = chance.choice([5, 6, 12, 60, 399, 400]), chance.randint(1, 6)
            rows = random_rows(chance, chance.randint(1, 8), breadth, chance.choice([2, 30, 1000, 10 ** 6]))
            hidden = [chance.randrange(min(2 ** width - 1, 10 ** 30)) for _ in range(breadth)]
            constants = [-sum(worth * rest for worth, rest in zip(row, hidden)) for row in rows]
            found = solution(rows, constants, width)
            self.assertTrue(solves(rows, constants, width, found))
            self.assertTrue(all(type(rest) is int and 0 <= rest < 2 ** width - 1 for rest in found))
            self.assertGreater(solutions(rows, constants, width), 0)


class Bounds(unittest.TestCase):
    def test_4096_and_more(self):
        self.assertEqual(len(listed([[0] * 3], [0], 4)), 15 ** 3)
        self.assertEqual(listed([[0, 0]], [0], 6), [[x, y] for x in range(63) for y in range(63)])
        self.assertEqual(len(listed([[0] * 6], [0], 2)), 729)
        for rows, width in (([[0]], 13), ([[0]], 400), ([[0] * 4], 4), ([[0, 0]], 7), ([[0] * 5, [0] * 5], 3)):
            with self.assertRaises(TooLarge) as caught:
                listed(rows, [0] * len(rows), width)
            self.assertEqual(vars(caught.exception), {"what": "solutions", "most": 4096})
        self.assertEqual(len(listed([[0]], [0], 12)), 4095)

    def test_just_at_4096_and_4097(self):
        # 17 * 241 is 4097; both divide 2 ** 24 - 1. No number of solutions is even, so none is 4096.
        self.assertEqual(solutions([[4097]], [0], 24), 4097)
        with self.assertRaises(TooLarge):
            listed([[4097]], [0], 24)
        self.assertEqual(len(listed([[4095]], [4095], 24)), 4095)
        self.assertEqual(listed([[4097]], [1], 24), [])

    def test_none_at_all_is_not_too_large(self):
        self.assertEqual(listed([[0] * 6], [1], 400), [])


class Wrong(unittest.TestCase):
    def refused(self, rows, constants, width, at):
        for ask in ASKED:
            raised(self, BadRows, lambda: ask(rows, constants, width), at=at)

    def test_rows(self):
        for rows in no_integers() + [0, [[1]] * 9, Word(4, 1)]:
            if not isinstance(rows, (list, tuple)) or len(rows) in (0, 9):
                self.refused(rows, None, None, None)
        for rows, at in (([[1], [1, 2]], 1), ([None], 0), ([[1, 2], [True, 2]], 1), ([[1], "1", None], 1), ([[0] * 7], 0)):
            self.refused(rows, None, 0, at)

    def test_constants(self):
        for constants in no_integers() + [0, [1], (1,), [1, 2, 3], [1, None], [True, 1], (1, "2"), [1, 10 ** 40 + 1]]:
            if not (isinstance(constants, tuple) and constants == (1, 2)):
                self.refused([[1], [2]], constants, 0, 2)
        self.refused([[1]], [-10 ** 40 - 1], 4, 1)
        self.refused([[1]] * 8, [0] * 7 + [Word(4, 1)], 4, 8)
        self.assertEqual(solutions([[1]], [-10 ** 40], 4), 1)

    def test_widths(self):
        for width in no_integers() + [0, -1, 401, 10 ** 30, Word(4, 4)]:
            for ask in ASKED:
                raised(self, BadWidth, lambda: ask([[0] * 6], [0], width), width=width)

    def test_width_ahead_of_too_large(self):
        raised(self, BadWidth, lambda: listed([[0] * 6], [0], 401), width=401)

    def test_names_of_the_parameters(self):
        for ask, wanted in ((solutions, 1), (solution, [2]), (listed, [[2]])):
            self.assertEqual(ask(rows=[[3]], constants=[1], width=3), wanted)

    def test_arguments_stay(self):
        rows, constants = [[2, 4], [6, 3]], [5, 7]
        for ask in ASKED:
            ask(rows, constants, 3)
        self.assertEqual((rows, constants), ([[2, 4], [6, 3]], [5, 7]))
        self.assertEqual(listed([[0]], [0], 2), [[0], [1], [2]])


class Orders(unittest.TestCase):
    def test_small_numbers(self):
        for number in range(1, 2000, 2):
            wanted = next(k for k in range(1, number + 1) if (2 ** k - 1) % number == 0)
            self.assertEqual(order_of(number), wanted)

    def test_large_numbers(self):
        for k in (1, 2, 3, 50, 97, 99):
            self.assertEqual(order_of(2 ** k - 1), k)
        self.assertEqual(order_of(2 ** 99 + 1), 198)
        self.assertEqual(order_of((2 ** 89 - 1) * 127), 89 * 7)
        self.assertEqual(order_of(number=9), 6)

    def test_5040_and_more(self):
        self.assertEqual([order_of(10079), order_of(40967), order_of(257 * 19 * 31 * 127)], [5039, 5040, 5040])
        self.assertEqual(order_of(17 * 19 * 31 * 127 * 337 * 61681), 2520)
        for number in (20177, 40361, 5051, 5059, 65537 * 9 * 31 * 127 * 23, 10 ** 30 - 1):
            with self.assertRaises(TooLarge) as caught:
                order_of(number)
            self.assertEqual(vars(caught.exception), {"what": "length", "most": 5040})


class Shared(unittest.TestCase):
    def test_small(self):
        for number in range(1, 200):
            for width in range(1, 40):
                self.assertEqual(shared(number, width), gcd(number, 2 ** width - 1), (number, width))

    def test_large(self):
        chance = chances(93)
        for _ in range(200):
            number, width = chance.randint(1, 10 ** 30), chance.randint(1, 3000)
            self.assertEqual(shared(number, width), gcd(number, 2 ** width - 1))
            far = chance.randint(1, 10 ** 30)
            self.assertEqual(shared(number, far), gcd(number, pow(2, far, number) - 1))
        self.assertEqual([shared(9, 10 ** 30), shared(1, 10 ** 30), shared(2, 10 ** 30), shared(10 ** 30, 10 ** 30)][:3], [3, 1, 1])
        self.assertEqual(shared(number=12, width=4), 3)
        self.assertEqual([shared(2 ** 60 * 15, 4), shared(2 ** 90, 90), shared(2 ** 90 - 1, 10 ** 30 // 90 * 90)], [15, 1, 2 ** 90 - 1])


if __name__ == "__main__":
    unittest.main()
