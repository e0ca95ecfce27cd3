"""The written form of formulas, and how it is read."""

import unittest

from tests.trees import chances, formula_of, random_tree, read_by_python, without_a_pair
from tests.values import no_integers, raised
from twozeros.errors import BadFormula
from twozeros.formulas import Formula, full, named, number
from twozeros.words import Word

a, b, c = named("a"), named("b"), named("c")

OPERATIONS = {
    "~": lambda e: ~e, "*": lambda e: 3 * e, "+": lambda e: e + b, "b +": lambda e: b + e, "-": lambda e: e - b,
    "b -": lambda e: b - e, "<<": lambda e: e << 3, ">>": lambda e: e >> 3,
}

# Each operation, on the left and on the right, around each other one: outer sign, then what is inside.
WITHIN = {
    ("~", "~"): "~~a", ("~", "*"): "~(3 * a)", ("~", "+"): "~(a + b)", ("~", "b +"): "~(b + a)",
    ("~", "-"): "~(a - b)", ("~", "b -"): "~(b - a)", ("~", "<<"): "~(a << 3)", ("~", ">>"): "~(a >> 3)",
    ("*", "~"): "3 * ~a", ("*", "*"): "3 * (3 * a)", ("*", "+"): "3 * (a + b)", ("*", "b +"): "3 * (b + a)",
    ("*", "-"): "3 * (a - b)", ("*", "b -"): "3 * (b - a)", ("*", "<<"): "3 * (a << 3)", ("*", ">>"): "3 * (a >> 3)",
    ("+", "~"): "~a + b", ("+", "*"): "3 * a + b", ("+", "+"): "a + b + b", ("+", "b +"): "b + a + b",
    ("+", "-"): "a - b + b", ("+", "b -"): "b - a + b", ("+", "<<"): "(a << 3) + b", ("+", ">>"): "(a >> 3) + b",
    ("b +", "~"): "b + ~a", ("b +", "*"): "b + 3 * a", ("b +", "+"): "b + (a + b)", ("b +", "b +"): "b + (b + a)",
    ("b +", "-"): "b + (a - b)", ("b +", "b -"): "b + (b - a)", ("b +", "<<"): "b + (a << 3)",
    ("b +", ">>"): "b + (a >> 3)",
    ("-", "~"): "~a - b", ("-", "*"): "3 * a - b", ("-", "+"): "a + b - b", ("-", "b +"): "b + a - b",
    ("-", "-"): "a - b - b", ("-", "b -"): "b - a - b", ("-", "<<"): "(a << 3) - b", ("-", ">>"): "(a >> 3) - b",
    ("b -", "~"): "b - ~a", ("b -", "*"): "b - 3 * a", ("b -", "+"): "b - (a + b)", ("b -", "b +"): "b - (b + a)",
    ("b -", "-"): "b - (a - b)", ("b -", "b -"): "b - (b - a)", ("b -", "<<"): "b - (a << 3)",
    ("b -", ">>"): "b - (a >> 3)",
    ("<<", "~"): "~a << 3", ("<<", "*"): "3 * a << 3", ("<<", "+"): "a + b << 3", ("<<", "b +"): "b + a << 3",
    ("<<", "-"): "a - b << 3", ("<<", "b -"): "b - a << 3", ("<<", "<<"): "a << 3 << 3", ("<<", ">>"): "a >> 3 << 3",
    (">>", "~"): "~a >> 3", (">>", "*"): "3 * a >> 3", (">>", "+"): "a + b >> 3", (">>", "b +"): "b + a >> 3",
    (">>", "-"): "a - b >> 3", (">>", "b -"): "b - a >> 3", (">>", "<<"): "a << 3 >> 3", (">>", ">>"): "a >> 3 >> 3",
}

GOOD = [
    "a", "abcdef", "full", "0", "15", "~a", "~~~a", "a + 0", "0 + a", "2 * 3", "1 * 0", "9 * full", "0 << 0", "15 >> 15",
    "a + b - c + full", "a - (b - (c - 1))", "2 * (a - b) << 3", "~(~a + ~b + 3)", "3 * (2 * (1 * a))", "~~(a + b)",
    "(a << 1) + (b >> 1) << 2", "fulls", "isa", "1 + 1", "~15 + ~0", "a + a + a",
]

BAD = [
    "", " ", "(a)", "((a))", "(a + b)", "a +b", "a+ b", "a+b", "a  + b", "a +  b", " a", "a ", "a + b ", "~ a", "~(a)",
    "~(~a)", "(~a)", "a + (b)", "(a) + b", "a + (2 * b)", "a + (~b)", "(a + b) + c", "(a + b) - c", "(a - b) << 1",
    "a + b << 1 + c", "a + (b + c", "a + b + c)", ")a(", "(", ")", "()", "~", "a ~", "a ~ b", "a b", "a + ", "+ a",
    "+ a b", "a b +", "- a", "-a", "+a", "a + + b", "a +- b", "16", "99", "00", "01", "007", "a + 03", "-1", "1.0", "1_0",
    "10 * a", "0 * a", "02 * a", "a * 2", "a * b", "full * a", "2 * 3 * a", "2 * a << 1 * b", "2*a", "2 * ~(a)",
    "2 * (a)", "3 * (~a)", "a << 16", "a << 01", "a << b", "a << ~1", "a << (1)", "a << 1 + 1", "a << full", "a <<1",
    "a<<1", "a < < 1", "a < 1", "a <<< 1", "a << -1", "(a << 1) << 1", "(a) << 1", "a << (b << 1)", "a >> 1 + b",
    "abcdefg", "A", "aB", "a1", "1a", "same", "like", "isempty", "isfull", "yes", "no", "Full", "full()", "full + yes",
    "a & b", "a | b", "a ^ b", "~(a & b)", "a == b", "a\n", "a\t+ b", "a + b\n", "\u00e9", "\u0663", "\uff41", "a, b",
    "a(b)", "a()", "same(a, b)", "2 * -1", "a / b", "a // b", "a % b", "a ** 2", "a + 1L", "a + 0x1", "a # b", "None",
]


class Written(unittest.TestCase):
    def test_each_operation_within_each_other_one(self):
        self.assertEqual(len(WITHIN), len(OPERATIONS) ** 2)
        for (outer, inner), text in WITHIN.items():
            made = OPERATIONS[outer](OPERATIONS[inner](a))
            self.assertEqual(str(made), text)
            self.assertEqual(Formula.read(text), made)

    def test_leaves_within_each_operation(self):
        for leaf in (a, number(0), number(15), full(), named("abcdef")):
            for outer, text in (
                ("~", "~{}"), ("*", "3 * {}"), ("+", "{} + b"), ("b +", "b + {}"), ("-", "{} - b"), ("b -", "b - {}"),
                ("<<", "{} << 3"), (">>", "{} >> 3"),
            ):
                made = OPERATIONS[outer](leaf)
                self.assertEqual(str(made), text.format(str(leaf)))
                self.assertEqual(Formula.read(str(made)), made)

    def test_at_random(self):
        chance = chances(34)
        for _ in range(1500):
            tree = random_tree(chance, chance.choice([2, 3, 4, 6, 10, 30, 60]), ["a", "b", "abcdef", "no" * 3])
            made = formula_of(tree)
            self.assertEqual(read_by_python(str(made)), tree)
            self.assertEqual(Formula.read(str(made)), made)
            self.assertIs(type(str(made)), str)

    def test_no_pair_of_brackets_too_many(self):
        chance = chances(35)
        for _ in range(500):
            tree = random_tree(chance, chance.choice([4, 6, 10, 30]))
            for text in without_a_pair(str(formula_of(tree))):
                self.assertNotEqual(read_by_python(text), tree)


class Read(unittest.TestCase):
    def refused(self, text):
        raised(self, BadFormula, lambda: Formula.read(text), value=text)

    def test_good_texts(self):
        for text in GOOD:
            self.assertIs(type(Formula.read(text)), Formula)
            self.assertEqual(str(Formula.read(text)), text)
            self.assertEqual(formula_of(read_by_python(text)), Formula.read(text))

    def test_bad_texts(self):
        for text in BAD:
            with self.subTest(text=text):
                self.refused(text)

    def test_spoiled_texts(self):
        """A letter left out, doubled, exchanged or put in: read only where it is another written form."""
        chance = chances(36)
        for _ in range(60):
            text = str(formula_of(random_tree(chance, chance.randint(2, 9))))
            for at in range(len(text) + 1):
                for other in "", " ", "(", ")", "~", "1", "+", "a", "<":
                    for spoiled in (text[:at] + other + text[at + 1:], text[:at] + other + text[at:]):
                        self.read_as_python_reads(spoiled)

    def read_as_python_reads(self, text):
        try:
            made = Formula.read(text)
        except BadFormula as error:
            self.assertIs(error.value, text)
            return
        self.assertEqual(str(made), text)
        self.assertEqual(formula_of(read_by_python(text)), made)

    def test_any_value(self):
        for value in no_integers() + [0, 3, a, full(), number(3), Word(4, 3), ["a"], b"a"]:
            if value not in ("word", "1"):
                self.refused(value)
        self.assertEqual([Formula.read("word"), Formula.read("1")], [named("word"), number(1)])

    def test_large_texts(self):
        self.assertEqual(Formula.read("~" * 59 + "a").size, 60)
        self.refused("~" * 60 + "a")
        self.assertEqual(Formula.read(" + ".join("a" * 30)).size, 59)
        self.assertEqual(Formula.read("~" + " + ".join("a" * 30)).size, 60)
        self.refused(" + ".join("a" * 31))
        self.assertEqual(Formula.read("a" + " << 15" * 59).size, 60)
        self.refused("a" + " << 15" * 60)

    def test_long_texts(self):
        for text in (
            "(" * 1000 + "a" + ")" * 999, "(" * 2000, ")" * 2000, "~(" * 600 + "a" + ")" * 600, "~" * 1999 + "a",
            "a + (" * 390 + "a" + ")" * 390, "3 * (" * 280 + "a" + ")" * 280, "a" * 2000, "9" * 2000, " " * 2000,
            "a" + " + a" * 499, "<" * 2000, "a(" * 1000, "a" + "(" * 900 + ")" * 900, "same(" * 400, "1" + "0" * 1999,
            "7" * 5000, "a" * 5000,
        ):
            self.refused(text)

    def test_deep_texts(self):
        text = "a - (" * 28 + "a - b" + ")" * 28
        made = Formula.read(text)
        self.assertEqual((made.size, str(made), made.names), (59, text, ("a", "b")))
        text = "~(a + " * 19 + "b" + ")" * 19
        self.assertEqual((Formula.read(text).size, str(Formula.read(text))), (58, text))
        text = "~" * 30 + "~(a + " * 9 + "b" + ")" * 9
        self.assertEqual((Formula.read(text).size, Formula.read(text).names), (58, ("a", "b")))


if __name__ == "__main__":
    unittest.main()
