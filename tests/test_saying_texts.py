"""The written form of sayings, and how it is read."""

import unittest

from tests.trees import chances, random_saying_tree, read_by_python, saying_of, without_a_pair
from tests.values import no_integers, raised
from twozeros.errors import BadSaying
from twozeros.formulas import full, named, number
from twozeros.sayings import Saying, is_empty, is_full, like, no, same, yes
from twozeros.words import Word

a, b = named("a"), named("b")

OPERATIONS = {
    "~": lambda s: ~s, "&": lambda s: s & no(), "no &": lambda s: no() & s, "^": lambda s: s ^ no(),
    "no ^": lambda s: no() ^ s, "|": lambda s: s | no(), "no |": lambda s: no() | s,
}

# Each operation, on the left and on the right, around each other one: outer sign, then what is inside.
WITHIN = {
    ("~", "~"): "~~yes", ("~", "&"): "~(yes & no)", ("~", "no &"): "~(no & yes)", ("~", "^"): "~(yes ^ no)",
    ("~", "no ^"): "~(no ^ yes)", ("~", "|"): "~(yes | no)", ("~", "no |"): "~(no | yes)",
    ("&", "~"): "~yes & no", ("&", "&"): "yes & no & no", ("&", "no &"): "no & yes & no", ("&", "^"): "(yes ^ no) & no",
    ("&", "no ^"): "(no ^ yes) & no", ("&", "|"): "(yes | no) & no", ("&", "no |"): "(no | yes) & no",
    ("no &", "~"): "no & ~yes", ("no &", "&"): "no & (yes & no)", ("no &", "no &"): "no & (no & yes)",
    ("no &", "^"): "no & (yes ^ no)", ("no &", "no ^"): "no & (no ^ yes)", ("no &", "|"): "no & (yes | no)",
    ("no &", "no |"): "no & (no | yes)",
    ("^", "~"): "~yes ^ no", ("^", "&"): "yes & no ^ no", ("^", "no &"): "no & yes ^ no", ("^", "^"): "yes ^ no ^ no",
    ("^", "no ^"): "no ^ yes ^ no", ("^", "|"): "(yes | no) ^ no", ("^", "no |"): "(no | yes) ^ no",
    ("no ^", "~"): "no ^ ~yes", ("no ^", "&"): "no ^ yes & no", ("no ^", "no &"): "no ^ no & yes",
    ("no ^", "^"): "no ^ (yes ^ no)", ("no ^", "no ^"): "no ^ (no ^ yes)", ("no ^", "|"): "no ^ (yes | no)",
    ("no ^", "no |"): "no ^ (no | yes)",
    ("|", "~"): "~yes | no", ("|", "&"): "yes & no | no", ("|", "no &"): "no & yes | no", ("|", "^"): "yes ^ no | no",
    ("|", "no ^"): "no ^ yes | no", ("|", "|"): "yes | no | no", ("|", "no |"): "no | yes | no",
    ("no |", "~"): "no | ~yes", ("no |", "&"): "no | yes & no", ("no |", "no &"): "no | no & yes",
    ("no |", "^"): "no | yes ^ no", ("no |", "no ^"): "no | no ^ yes", ("no |", "|"): "no | (yes | no)",
    ("no |", "no |"): "no | (no | yes)",
}

GOOD = [
    "yes", "no", "~yes", "~~~no", "same(a, b)", "like(a + b, ~(a - b))", "isempty(a)", "isfull(full)", "~isempty(0)",
    "same(2 * (a - b) << 3, (a << 1) + 1)", "yes & no & yes", "yes & (no & yes)", "~(yes & no)", "(yes | no) ^ yes",
    "isempty(isa)", "same(yess, nono)", "yes | no & yes ^ no", "like((a << 1) + b, 15)", "same(a, b) & isfull(a)",
]

BAD = [
    "", " ", "a", "0", "full", "same", "isempty", "yess", "Yes", "yes()", "no()", "yes(a)", "(yes)", "~(yes)", "~ yes",
    "yes &no", "yes& no", "yes&no", "yes  & no", " yes", "yes ", "yes & ", "& yes", "& yes no", "yes no", "yes no &",
    "yes & & no", "yes & (no)", "(yes) & no", "(yes & no) & no", "(yes & no) | no", "yes | (no & yes)", "yes & (~no)",
    "yes ~ no", "yes && no", "yes + no", "yes - no", "yes << 1", "2 * yes", "~(~yes)", "((yes | no)) & no", "(", ")", "()",
    "(yes | no & no", "yes | no) & no", "same(a)", "same()", "same(a, b, c)", "same(a,b)", "same(a , b)", "same( a, b)",
    "same(a, b )", "same(a,  b)", "same (a, b)", "same(a, b", "samea, b)", "same(a, )", "same(, a)", "like(a)",
    "like(a, b, c)", "isempty()", "isempty(a, b)", "isempty((a))", "isempty(a", "isempty a", "isfull(a b)",
    "isfull(16)", "isfull(yes)", "same(yes, no)", "same(a, same(a, b))", "isempty(isempty(a))", "is_empty(a)",
    "isempty(a) isempty(b)", "isempty(a)isempty(b)", "isempty(a) & b", "a & isempty(b)", "isempty(a)) & yes",
    "(isempty(a) & yes", "isempty(a) & (yes", "isempty(a)\n", "isempty(a\n)", "isempty(A)", "isempty(abcdefg)",
    "isempty(full())", "isempty(01)", "ISEMPTY(a)", "isempty[a]", "not yes", "yes and no", "True", "~", "~&", "&", "^", "|",
    "same(a, b);", "same(a; b)", "like(a, b) == yes", "isempty(~(a))", "isfull(10 * a)", "isempty(a) + isempty(b)",
    "\u00e9", "yes\u00a0& no", "None",
]


class Written(unittest.TestCase):
    def test_each_operation_within_each_other_one(self):
        self.assertEqual(len(WITHIN), len(OPERATIONS) ** 2)
        for (outer, inner), text in WITHIN.items():
            made = OPERATIONS[outer](OPERATIONS[inner](yes()))
            self.assertEqual(str(made), text)
            self.assertEqual(Saying.read(text), made)

    def test_simple_sayings(self):
        for made, text in (
            (same(a + b, ~a), "same(a + b, ~a)"), (like(a << 1, 3 * b), "like(a << 1, 3 * b)"), (yes(), "yes"),
            (is_empty(a - (b - 1)), "isempty(a - (b - 1))"), (is_full(full()), "isfull(full)"), (no(), "no"),
            (is_empty(number(0)), "isempty(0)"), (~is_empty(~a), "~isempty(~a)"),
        ):
            self.assertEqual(str(made), text)
            self.assertIs(type(str(made)), str)
            self.assertEqual(Saying.read(text), made)

    def test_at_random(self):
        chance = chances(71)
        for _ in range(600):
            tree = random_saying_tree(chance, chance.randint(1, 9))
            made = saying_of(tree)
            self.assertEqual(read_by_python(str(made)), tree)
            self.assertEqual(Saying.read(str(made)), made)

    def test_no_pair_of_brackets_too_many(self):
        chance = chances(72)
        for _ in range(300):
            tree = random_saying_tree(chance, chance.randint(2, 6))
            for text in without_a_pair(str(saying_of(tree))):
                self.assertNotEqual(read_by_python(text), tree)


class Read(unittest.TestCase):
    def refused(self, text):
        raised(self, BadSaying, lambda: Saying.read(text), value=text)

    def test_good_texts(self):
        for text in GOOD:
            self.assertIs(type(Saying.read(text)), Saying)
            self.assertEqual(str(Saying.read(text)), text)
            self.assertEqual(saying_of(read_by_python(text)), Saying.read(text))

    def test_bad_texts(self):
        for text in BAD:
            with self.subTest(text=text):
                self.refused(text)

    def test_spoiled_texts(self):
        chance = chances(73)
        for _ in range(40):
            text = str(saying_of(random_saying_tree(chance, chance.randint(1, 3))))
            for at in range(len(text) + 1):
                for other in "", " ", "(", ")", "~", "&", ",", "a":
                    for spoiled in (text[:at] + other + text[at + 1:], text[:at] + other + text[at:]):
                        self.read_as_python_reads(spoiled)

    def read_as_python_reads(self, text):
        try:
            made = Saying.read(text)
        except BadSaying as error:
            self.assertIs(error.value, text)
            return
        self.assertEqual(str(made), text)
        self.assertEqual(saying_of(read_by_python(text)), made)

    def test_any_value(self):
        for value in no_integers() + [0, 3, a, yes(), Word(4, 3), ["yes"], b"yes", yes]:
            self.refused(value)

    def test_large_texts(self):
        self.assertEqual(Saying.read("~" * 149 + "yes").size, 150)
        self.refused("~" * 150 + "yes")
        self.assertEqual(Saying.read(" & ".join(["yes"] * 75)).size, 149)
        self.refused(" & ".join(["yes"] * 76))
        self.assertEqual(Saying.read(f"isempty({'~' * 59}a)").size, 61)
        self.refused(f"isempty({'~' * 60}a)")
        large = f"isempty({'~' * 59}a) & isempty({'~' * 59}a) & "
        self.assertEqual(Saying.read(large + f"isempty({'~' * 23}a)").size, 149)
        self.refused(large + f"isempty({'~' * 25}a)")

    def test_long_texts(self):
        for text in (
            "(" * 1000 + "yes" + ")" * 997, "(" * 2000, ")" * 2000, "~(" * 600 + "yes" + ")" * 600, "~" * 1990 + "yes",
            "yes & (" * 250 + "no" + ")" * 250, "isempty(" * 200 + "a" + ")" * 200, "same(" * 400, "y" * 2000,
            "isempty(" + "(" * 900 + "a" + ")" * 900 + ")", "yes" + " & yes" * 330, "same(a, " * 200 + "b" + ")" * 200,
            "isempty(" + "~(a + " * 250 + "a" + ")" * 250 + ")", "," * 2000, "isempty(" + "9" * 1900 + ")",
            "isempty(" + "9" * 5000 + ")",
        ):
            self.refused(text)

    def test_deep_texts(self):
        text = "yes & (" * 73 + "yes & yes" + ")" * 73
        self.assertEqual((Saying.read(text).size, str(Saying.read(text))), (149, text))
        text = "~(" + "no | ~(" * 48 + "no | yes" + ")" * 49
        self.assertEqual((Saying.read(text).size, str(Saying.read(text))), (148, text))


if __name__ == "__main__":
    unittest.main()
