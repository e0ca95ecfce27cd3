import unittest
from itertools import product
from math import gcd

from tests.test_counts import MOST_WIDTH, random_sayings
from tests.trees import chances, formula_of, random_tree, value_of
from tests.values import no_integers, raised
from twozeros.counts import count
from twozeros.errors import BadWidth, BadWord, TooLarge
from twozeros.formulas import Formula, named, number
from twozeros.sayings import Saying, is_full, like, no, same, yes
from twozeros.tables import Table, always, compared, exactly, sometimes, table
from twozeros.widthsets import Widths
from twozeros.words import Word

FAR = 10 ** 30
x, y = named("x"), named("y")

# Sayings with constants, whose numbers at small widths are no values of their polynomials.
WITH_CONSTANTS = [
    "isfull(x + 5)", "like(x, 7)", "like(3 * x, 15)", "isfull(15)", "like(7, 0)", "like(3 * x + 1, 0)", "same(x + 15, y)",
    "like(15 << 3, 0)", "like(3 * x, 1) & like(9 * x, 10)", "like(x, 15) & like(x << 1, 15)", "isempty(~(x + 7) + y)",
    "like(x, 1) & like(x, 8)", "like(x, 14) & like(y, x + 1) & like(y, 0)", "same(x, y + 3) | like(15, 0)",
]


def divisors_of(many):
    return [divisor for divisor in range(1, many + 1) if many % divisor == 0]


def value(coefficients, most):
    return sum(worth * most ** power for power, worth in enumerate(coefficients))


def sayings(seed, many):
    return [Saying.read(text) for text in WITH_CONSTANTS] + [saying for _, saying in random_sayings(seed, many)]


def count_all(widths, most=60):
    return [width for width in range(1, most + 1) if width in widths]


class Tables(unittest.TestCase):
    def test_numbers_at_each_width(self):
        for saying in sayings(131, 100):
            made = table(saying)
            for width in (*range(1, 30), 60, 63, 64, 120, 399, 400):
                self.assertEqual(made.count_at(width), count(saying, width), (str(saying), width))

    def test_polynomials(self):
        for saying in sayings(132, 100):
            made = table(saying)
            classes = dict(made.classes())
            self.assertEqual(list(classes), divisors_of(made.length))
            for width in (*range(made.start, made.start + 30), 240, 400):
                found = made.polynomial(width)
                self.assertIs(type(found), list)
                self.assertEqual(tuple(found), classes[gcd(width, made.length)])
                self.assertNotEqual(found[-1:], [0])
                self.assertEqual(value(found, 2 ** width - 1), count(saying, width), (str(saying), width))
            for k in range(5):
                self.assertEqual(tuple(made.polynomial(FAR + k)), classes[gcd(FAR + k, made.length)])

    def test_classes(self):
        for saying in sayings(133, 40):
            found = table(saying).classes()
            self.assertIs(type(found), list)
            for entry in found:
                self.assertEqual([type(part) for part in (entry, *entry)], [tuple, int, tuple])
                self.assertTrue(all(type(worth) is int for worth in entry[1]))
        made = table(Saying.read("like(3 * x, 0)"))
        made.classes().clear()
        made.polynomial(2).clear()
        self.assertEqual([made.classes(), made.polynomial(2)], [[(1, (2,)), (2, (4,))], [4]])

    def test_the_least_start_and_length(self):
        for saying in sayings(134, 150):
            made = table(saying)
            classes = dict(made.classes())
            if made.start > 1:
                width = made.start - 1
                self.assertNotEqual(value(classes[gcd(width, made.length)], 2 ** width - 1), count(saying, width))
            for shorter in divisors_of(made.length)[:-1]:
                self.assertTrue(any(classes[at] != classes[gcd(at, shorter)] for at in classes), str(saying))
            if all(form.constant == 0 for form in saying.forms()):
                self.assertEqual(made.start, 1)

    def test_known_tables(self):
        for text, start, length, classes in (
            ("yes", 1, 1, [(1, (1,))]), ("no", 1, 1, [(1, ())]), ("isempty(x)", 1, 1, [(1, (1,))]),
            ("isempty(x) | yes", 1, 1, [(1, (1, 1))]), ("like(x, y)", 1, 1, [(1, (3, 1))]),
            ("like(3 * x, 0)", 1, 2, [(1, (2,)), (2, (4,))]), ("like(7, 0)", 4, 1, [(1, ())]),
            ("like(3 * x, 0) & ~like(x, 0)", 1, 2, [(1, ()), (2, (2,))]), ("isfull(x + 5)", 2, 1, [(1, (1,))]),
            ("like(9 * x, 0)", 1, 6, [(1, (2,)), (2, (4,)), (3, (2,)), (6, (10,))]),
        ):
            made = table(Saying.read(text))
            self.assertEqual((made.start, made.length, made.classes()), (start, length, classes), text)
        self.assertEqual(table(saying=yes()).count_at(width=7), 1)

    def test_widths(self):
        made = table(Saying.read("like(7, 0)"))
        for width in no_integers() + [0, -1, 401, FAR, Word(4, 4)]:
            raised(self, BadWidth, lambda: made.count_at(width), width=width)
        for width in no_integers() + [0, -1, 3, Word(4, 4)]:
            raised(self, BadWidth, lambda: made.polynomial(width), width=width)
        self.assertEqual([made.polynomial(4), made.polynomial(width=FAR), made.count_at(400)], [[], [], 0])
        self.assertEqual([made.count_at(width) for width in (1, 2, 3, 4)], [1, 0, 1, 0])

    def test_equal(self):
        texts = [
            "yes", "no", "isempty(x)", "isfull(x)", "isempty(x) | isfull(x)", "like(x, 0)", "isempty(x) & isempty(y)",
            "isempty(x) | yes", "same(x, y)", "like(7, 0)", "like(3, 0)", "like(3 * x, 0)", "like(7 * x, 0)", "like(x, y)",
            "like(y, z)", "same(x, 7)", "like(7, 0) & yes", "like(15, 0)", "isfull(x + y + z)", "same(x + 3, y)",
        ]
        tables = [table(Saying.read(text)) for text in texts]
        for one, s in zip(tables, texts):
            for other, t in zip(tables, texts):
                alike = all(count(Saying.read(s), width) == count(Saying.read(t), width) for width in range(1, 25))
                self.assertIs(one == other, alike, (s, t))
                self.assertIs(one != other, not alike)
        for other in no_integers() + [1, Widths.none(), Table]:
            if not isinstance(other, Table):
                self.assertIs(tables[0] == other, False)
                self.assertIs(other == tables[0], False)


class Sets(unittest.TestCase):
    def test_always_and_sometimes(self):
        for saying in sayings(135, 120):
            numbers = {width: count(saying, width) for width in range(1, 61)}
            full = {width: 2 ** (width * len(saying.names)) for width in numbers}
            self.assertEqual(count_all(always(saying)), [width for width in numbers if numbers[width] == full[width]])
            self.assertEqual(count_all(sometimes(saying)), [width for width in numbers if numbers[width] > 0])
            self.assertEqual(sometimes(saying), ~always(~saying))
            self.assertEqual(always(saying), ~sometimes(~saying))

    def test_far_widths(self):
        found = always(Saying.read("~like(3 * x, 1)"))
        self.assertEqual([str(found), FAR in found, FAR + 1 in found], ["- | 1 | 2 | 2", True, False])
        self.assertEqual(str(sometimes(Saying.read("like(9 * x, 3) & ~like(3 * x, 1)"))), "- | 1 | 6 | 2")
        self.assertEqual(str(always(Saying.read("like(15, 0)"))), "1 2 4 | 5 | 1 | -")

    def test_exactly(self):
        for saying in sayings(136, 60):
            numbers = {width: count(saying, width) for width in range(1, 41)}
            for wanted in ([], [0], [1], [2, 1], [0, 16], [4, 256, 15, FAR], [numbers[3]], [numbers[9], numbers[2], 7, 7]):
                wanted = [k for k in wanted if k <= FAR]
                found = exactly(saying, *wanted)
                self.assertIs(type(found), Widths)
                self.assertEqual(count_all(found, 40), [width for width in numbers if numbers[width] in wanted])
            self.assertEqual(exactly(saying), Widths.none())

    def test_a_number_that_a_polynomial_has_once(self):
        saying = Saying.read("isempty(x) | yes")
        self.assertEqual(str(exactly(saying, 2 ** 99)), "99 | 100 | 1 | -")
        self.assertEqual(str(exactly(saying, 2 ** 99, 2 ** 98 + 1, 8)), "3 99 | 100 | 1 | -")
        self.assertEqual(exactly(saying, 2 ** 99 - 1, 0, FAR), Widths.none())
        saying = Saying.read("like(3 * x, 0) | isempty(y) & like(y, 0)")
        for width in (1, 2, 3, 10, 11, 48, 49):
            self.assertIn(width, exactly(saying, count(saying, width)))
        self.assertEqual(str(exactly(Saying.read("like(3 * x, 0)"), 4)), "- | 1 | 2 | 2")
        self.assertEqual(str(exactly(Saying.read("like(3 * x, 0)"), 4, 2)), "- | 1 | 1 | 1")
        self.assertEqual(str(exactly(Saying.read("like(3 * x, y)"), 8)), "2 | 3 | 1 | -")

    def test_exactly_with_wrong_numbers(self):
        for wrong in no_integers() + [-1, FAR + 1, Word(4, 4)]:
            raised(self, BadWord, lambda: exactly(yes(), wrong), value=wrong)
            raised(self, BadWord, lambda: exactly(no(), 0, FAR, wrong, None), value=wrong)
        self.assertEqual([exactly(yes(), 1), exactly(yes(), 0, FAR)], [Widths.every(), Widths.none()])


class Compared(unittest.TestCase):
    def check(self, one, other, trees=None):
        found = compared(one, other)
        self.assertIs(type(found), tuple)
        self.assertEqual([type(widths) for widths in found], [Widths] * 3)
        equal, alike, apart = found
        self.assertEqual([equal & alike, equal & apart, alike & apart, equal | alike | apart], [
            Widths.none(), Widths.none(), Widths.none(), Widths.every(),
        ])
        names = sorted({*one.names, *other.names})
        for width in range(1, min(5, MOST_WIDTH[len(names)]) + 1):
            rows = [dict(zip(names, row)) for row in product(range(2 ** width), repeat=len(names))]
            pairs = [(one.value_at(width, words).value, other.value_at(width, words).value) for words in rows]
            same_word = all(a == b for a, b in pairs)
            same_rest = all((a - b) % (2 ** width - 1) == 0 for a, b in pairs)
            wanted = 0 if same_word else 1 if same_rest else 2
            self.assertEqual([width in widths for widths in found], [k == wanted for k in range(3)], (str(one), str(other)))

    def test_all_words(self):
        chance = chances(137)
        pairs = 0
        while pairs < 120:
            one, other = [formula_of(random_tree(chance, chance.randint(1, 5), "xy")) for _ in range(2)]
            try:
                self.check(one, other)
                pairs += 1
            except TooLarge:
                pass

    def test_alike(self):
        for one, other in (
            ("x", "x"), ("x + y", "y + x"), ("x - x", "full"), ("~~x", "x"), ("x + 0", "x"), ("x + full", "x"),
            ("2 * x", "x << 1"), ("x << 4", "x"), ("x", "y"), ("3", "full"), ("~(3 * x)", "3 * ~x"), ("x + 15", "x"),
            ("~(x + y)", "~x + ~y"), ("7 * x", "0"), ("0", "full"), ("x - 7", "x"), ("~(7 * x)", "7 * ~x"),
        ):
            self.check(Formula.read(one), Formula.read(other))
        self.assertEqual([str(s) for s in compared(x + 15, x)], ["- | 1 | 1 | -", "1 2 4 | 5 | 1 | -", "3 | 5 | 1 | 1"])
        self.assertEqual([str(s) for s in compared(one=x, other=x)], ["- | 1 | 1 | 1", "- | 1 | 1 | -", "- | 1 | 1 | -"])

    def test_too_large(self):
        letters = [named(letter) for letter in "abcdefg"]
        large = letters[0]
        for letter in letters[1:]:
            large = large + letter
        forms = x
        for k in range(1, 11):
            forms = ~forms + k
        for one, other, what, most in (
            (large, x, "names", 6), (x + x, (x << 10) - x, "number", 1000), (forms, x, "forms", 8),
        ):
            with self.assertRaises(TooLarge) as caught:
                compared(one, other)
            self.assertEqual(vars(caught.exception), {"what": what, "most": most})

    def test_like_comes_first(self):
        """The table of like has the form with the large number alone; that of same has too many forms."""
        one = x
        for k in range(1, 10):
            one = ~one + k
        large = one + (x << 11)
        with self.assertRaises(TooLarge) as caught:
            same_table = table(same(large, y))
            self.fail(str(same_table))
        self.assertEqual(caught.exception.what, "forms")
        with self.assertRaises(TooLarge) as caught:
            compared(large, y)
        self.assertEqual(caught.exception.what, "number")


class Parts(unittest.TestCase):
    def test_against_values(self):
        """A formula is compared with what has its value at each width."""
        chance = chances(138)
        for _ in range(30):
            tree = random_tree(chance, 3, "x")
            made = same(formula_of(tree), y) & ~is_full(y)
            if all(abs(worth) <= 1000 for form in made.forms() for worth in form.row(made.names)):
                for width in (1, 2, 3):
                    wanted = [v for v in range(2 ** width) if value_of(tree, width, {"x": v}) != 2 ** width - 1]
                    if "x" in made.names:
                        self.assertEqual(table(made).count_at(width), len(wanted))
        self.assertEqual(table(like(number(3), number(0))).start, 3)


if __name__ == "__main__":
    unittest.main()
