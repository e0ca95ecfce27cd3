import unittest
from fractions import Fraction

from tests.plain_forms import (
    cleaned, complement_normals, empty_when, fractions_of, normal_of, normal_of_form, parts_of, plus, times,
)
from tests.trees import chances, formula_of, random_tree, value_of
from tests.values import no_integers, raised, some_values
from twozeros.errors import BadWidth, BadWord, NoWord
from twozeros.formulas import Formula, full, named, number
from twozeros.forms import Form, complement_forms, form_of, is_empty_when
from twozeros.words import Word

WIDTHS = (1, 2, 3, 5, 8, 16, 31, 63, 64)
HUGE = 10 ** 100 - 3
a, b, c = named("a"), named("b"), named("c")


def random_numbers(chance):
    """Numbers, a constant and a scale, among them such that can be reduced."""
    size = chance.choice([1, 3, 50, 10 ** 6, 10 ** 30, HUGE])
    even = 2 ** chance.choice([0, 0, 1, 2, 5, 40])
    numbers = {name: chance.randint(-size, size) * even for name in "abcd" if chance.random() < 0.6}
    if chance.random() < 0.3:
        numbers["zz"] = 0
    constant = chance.choice([0, 0, 1, even, chance.randint(-size, size) * even])
    return numbers, constant, chance.choice([0, 0, 1, 2, 7, 40, 1000])


def fractions_from(numbers, constant, scale):
    return cleaned({name: Fraction(worth, 2 ** scale) for name, worth in {**numbers, "": constant}.items()})


class Parts(unittest.TestCase):
    def has_parts(self, form, fractions):
        numbers, constant, scale = parts_of(fractions)
        self.assertEqual((form.numbers, form.constant, form.scale), (numbers, constant, scale))
        self.assertEqual(form.names, tuple(sorted(numbers)))
        self.assertIs(type(form.names), tuple)
        self.assertIs(bool(form), bool(numbers or constant))

    def test_reduced(self):
        chance = chances(41)
        for _ in range(500):
            told = random_numbers(chance)
            self.has_parts(Form(*told), fractions_from(*told))

    def test_names_with_zero_are_left_out(self):
        form = Form({"b": 0, "a": 2, "c": 0}, 0)
        self.assertEqual((form.numbers, form.names, str(form)), ({"a": 2}, ("a",), "2 a"))

    def test_the_form_zero(self):
        for form in (Form({}), Form({"a": 0}), Form({}, 0, 1000), Form({"a": 0, "b": 0}, scale=5), Form({"a": 1}) * 0):
            self.assertEqual((form.numbers, form.constant, form.scale, form.names, str(form)), ({}, 0, 0, (), "0"))
            self.assertIs(bool(form), False)
            self.assertEqual(form, Form({}))

    def test_parameters(self):
        form = Form(numbers={"a": 6}, constant=4, scale=1)
        self.assertEqual((form.numbers, form.constant, form.scale), ({"a": 3}, 2, 0))
        self.assertEqual(form, Form({"a": 3}, constant=2))

    def test_numbers_are_new_each_time(self):
        told = {"b": 2, "a": 1}
        form = Form(told, 3)
        form.numbers["a"] = 9
        form.numbers.clear()
        told["b"] = 7
        told["c"] = 1
        self.assertEqual((form.numbers, form.names, form.constant), ({"a": 1, "b": 2}, ("a", "b"), 3))

    def test_operators(self):
        chance = chances(42)
        for _ in range(400):
            one, other = random_numbers(chance), random_numbers(chance)
            f, g, k = Form(*one), Form(*other), chance.choice([0, 1, -1, 2, -8, 3, 10 ** 30, -10 ** 30])
            x, y = fractions_from(*one), fractions_from(*other)
            self.has_parts(f + g, plus(x, y))
            self.has_parts(f - g, plus(x, times(-1, y)))
            self.has_parts(f - f, {})
            self.has_parts(-f, times(-1, x))
            self.has_parts(k * f, times(k, x))
            self.has_parts(f * k, times(k, x))
            self.has_parts(f, x)

    def test_without_and_row(self):
        chance = chances(43)
        for _ in range(300):
            told = random_numbers(chance)
            form, fractions = Form(*told), fractions_from(*told)
            names = [name for name in ("a", "b", "d", "zz", "other") if chance.random() < 0.5]
            for left_out in (names, tuple(names)):
                self.has_parts(form.without(left_out), {k: v for k, v in fractions.items() if k not in names})
            numbers, constant, _ = parts_of(fractions)
            for order in (names, tuple(names[::-1])):
                self.assertEqual(form.row(order), [numbers.get(name, 0) for name in order] + [constant])
        self.assertEqual(Form({"a": 1, "b": 2}, 4, 3).without(["a"]), Form({"b": 1}, 2, 2))
        self.assertEqual(Form({"a": 1, "b": 2}, 4, 3).row(["b", "x", "a"]), [2, 0, 1, 4])
        self.assertEqual(Form({"a": 1}, 4, 3).row(()), [4])

    def test_normal(self):
        chance = chances(44)
        for _ in range(500):
            told = random_numbers(chance)
            normal = Form(*told).normal()
            self.assertEqual((normal_of_form(normal), normal.scale), (normal_of(fractions_from(*told)), 0))
            self.assertEqual(normal.normal(), normal)
            self.assertEqual(Form(*told).normal(), (-8 * Form(*told)).normal())
        for numbers, constant, wanted in (
            ({}, 6, "3"), ({}, -6, "3"), ({"y": 2, "x": -4}, 0, "2 x - y"), ({}, 0, "0"), ({"a": -2}, 4, "a - 2"),
            ({"a": 2}, -3, "2 a - 3"), ({"a": 2002}, 0, "1001 a"), ({"a": -3}, 5, "3 a - 5"),
        ):
            self.assertEqual(str(Form(numbers, constant).normal()), wanted)
        self.assertEqual(str(Form({"a": -1}, 2, 3).normal()), "a - 2")


class Texts(unittest.TestCase):
    def test_texts(self):
        for form, text in (
            (Form({"x": 3, "y": -1}, 2), "3 x - y + 2"), (Form({"x": 1, "y": 1}, 0, 2), "(x + y) / 4"),
            (Form({"x": -1}), "-x"), (Form({"x": -3, "y": 1}), "-3 x + y"), (Form({"y": 1, "x": 1}), "x + y"),
            (Form({}, 5), "5"), (Form({}, -5), "-5"), (Form({}, 5, 1), "(5) / 2"), (Form({}, -5, 1), "(-5) / 2"),
            (Form({"b": -1, "a": -1}, -1), "-a - b - 1"), (Form({"a": 1}, 1), "a + 1"), (Form({"a": 2}), "2 a"),
            (Form({"a": -1}, 0, 1), "(-a) / 2"), (Form({"ab": 11, "aa": -11}, 11), "-11 aa + 11 ab + 11"),
            (Form({"a": HUGE}, -HUGE), f"{HUGE} a - {HUGE}"), (Form({"a": 1}, 0, 1000), f"(a) / {2 ** 1000}"),
            (Form({"a": 10}), "10 a"), (Form({"a": 1, "b": -1}, 0), "a - b"),
        ):
            self.assertEqual(str(form), text)
            self.assertIs(type(str(form)), str)


class Equal(unittest.TestCase):
    def test_equal_parts_only(self):
        forms = [
            Form({}), Form({}, 1), Form({}, 1, 1), Form({"a": 1}), Form({"b": 1}), Form({"a": 2}), Form({"a": -1}),
            Form({"a": 1}, 1), Form({"a": 1}, 0, 1), Form({"a": 1, "b": 1}), Form({"a": 1}, 0, 2),
        ]
        for at, one in enumerate(forms):
            for index, other in enumerate(forms):
                self.assertIs(one == other, at == index)
                self.assertIs(one != other, at != index)
        self.assertEqual(Form({"a": 2, "b": 4}, 6, 1), Form({"b": 2, "a": 1, "c": 0}, 3))

    def test_any_value(self):
        for value in no_integers() + [0, 1, "0", "a", a, {}, Word(4, 0), Form]:
            for form in (Form({}), Form({"a": 1}, 3)):
                wanted = isinstance(value, Form) and str(value) == str(form)
                self.assertIs(form == value, wanted)
                self.assertIs(value == form, wanted)


class Rests(unittest.TestCase):
    def test_against_fractions(self):
        chance = chances(45)
        for _ in range(600):
            told, width = random_numbers(chance), chance.choice(WIDTHS)
            most = 2 ** width - 1
            words = {name: chance.choice(some_values(width)) for name in "abcd"}
            total = sum(worth * words.get(name, 0) for name, worth in told[0].items()) + told[1]
            half = pow(2, -1, most) if width > 1 else 0
            wanted = total * pow(half, told[2], most) % most
            self.assertEqual(Form(*told).rest_at(width, words), wanted)
            as_words = {name: Word(width, value) for name, value in words.items()}
            self.assertEqual(Form(*told).rest_at(width, as_words), wanted)

    def test_the_rest_of_the_value_of_the_formula(self):
        chance = chances(46)
        for _ in range(1500):
            tree, width = random_tree(chance, chance.choice([1, 2, 4, 8, 16, 60])), chance.choice(WIDTHS)
            words = {name: chance.choice(some_values(width)) for name in "abc"}
            form = form_of(formula_of(tree))
            self.assertEqual(form.rest_at(width, words), value_of(tree, width, words) % (2 ** width - 1))

    def test_normal_forms_are_zero_at_the_same_words(self):
        chance = chances(47)
        for _ in range(300):
            form, width = Form(*random_numbers(chance)), chance.choice((1, 2, 3, 4))
            for x in range(2 ** width):
                words = {"a": x, "b": 1, "c": 0, "d": 2 ** width - 1}
                self.assertEqual(form.rest_at(width, words) == 0, form.normal().rest_at(width, words) == 0)

    def test_width_one(self):
        self.assertEqual([Form({"a": 3}, 5, 7).rest_at(1, {"a": x}) for x in (0, 1)], [0, 0])

    def test_errors(self):
        form = Form({"z": 1, "c": 2, "aa": -1})
        for width in no_integers() + [0, 65, -1, 10 ** 30]:
            raised(self, BadWidth, lambda: form.rest_at(width, {}), width=width)
        for words, name in (({}, "aa"), ({"aa": None}, "c"), ({"aa": 99, "c": -1}, "z")):
            with self.assertRaises(NoWord) as caught:
                form.rest_at(4, words)
            self.assertEqual(caught.exception.name, name)
        for value in no_integers() + [-1, 16, Word(3, 1)]:
            raised(self, BadWord, lambda: form.rest_at(4, {"aa": 1, "c": value, "z": 99}), value=value)
        self.assertEqual(form.rest_at(4, {"aa": 1, "c": 1, "z": 1, "b": None}), 2)
        self.assertEqual(Form({"a": 0}, 3).rest_at(4, {}), 3)


class OfFormulas(unittest.TestCase):
    def test_form_of(self):
        chance = chances(48)
        for _ in range(800):
            tree = random_tree(chance, chance.choice([1, 2, 3, 5, 9, 25, 60]))
            form = form_of(formula_of(tree))
            numbers, constant, scale = parts_of(fractions_of(tree))
            self.assertEqual((form.numbers, form.constant, form.scale), (numbers, constant, scale), tree)
        for formula, text in (
            (a, "a"), (number(7), "7"), (full(), "0"), (a + full(), "a"), (a - a, "0"), (~a, "-a"), (9 * a, "9 a"),
            (a << 15, "32768 a"), (a >> 15, "(a) / 32768"), ((a << 3) >> 4, "(a) / 2"), (~(a + b) + 3, "-a - b + 3"),
        ):
            self.assertEqual(str(form_of(formula)), text)

    def test_deep_formulas(self):
        deep = a
        for _ in range(59):
            deep = deep >> 15
        self.assertEqual((form_of(deep).scale, form_of(deep).numbers), (885, {"a": 1}))

    def test_complement_forms(self):
        chance = chances(49)
        for _ in range(500):
            tree = random_tree(chance, chance.choice([1, 2, 3, 5, 9, 25, 60]))
            found = complement_forms(formula_of(tree))
            self.assertIs(type(found), list)
            self.assertEqual([normal_of_form(form) for form in found], complement_normals(tree))
        for text, wanted in (
            ("a", []), ("~a", ["a"]), ("~~a", ["a"]), ("~full", []), ("~0", []), ("~6", ["3"]), ("a - b", ["b"]),
            ("a - (b - c)", ["c", "b - c"]), ("~(a - 2 * b) - ~c", ["b", "a - 2 b", "c"]), ("~(a - a)", ["a"]),
            ("~(b + ~a) + ~(a - b)", ["a", "a - b", "b"]), ("a + b << 3", []), ("~(~a + ~b)", ["a", "b", "a + b"]),
        ):
            self.assertEqual([str(form) for form in complement_forms(Formula.read(text))], wanted, text)

    def test_new_lists(self):
        formula = ~a
        complement_forms(formula).clear()
        self.assertEqual([str(form) for form in complement_forms(formula)], ["a"])


class Empty(unittest.TestCase):
    def told(self, formula, empties, zeros):
        """The answer for tuples and lists alike."""
        answers = [
            is_empty_when(formula, kind(empties), other(zeros)) for kind in (tuple, list) for other in (tuple, list)
        ]
        self.assertEqual(answers, [answers[0]] * 4)
        self.assertIs(type(answers[0]), bool)
        return answers[0]

    def test_at_real_words(self):
        chance = chances(50)
        for _ in range(600):
            tree, width = random_tree(chance, chance.choice([1, 2, 4, 8, 20])), chance.choice((1, 2, 3, 4, 8, 64))
            formula = formula_of(tree)
            words = {name: chance.choice([0, 0, 2 ** width - 1, 1, 2 ** width // 2]) for name in "abc"}
            empties = [name for name in "abc" if words[name] == 0]
            zeros = [form for form in complement_forms(formula) if form.rest_at(width, words) == 0]
            self.assertIs(self.told(formula, empties, zeros), value_of(tree, width, words) == 0)

    def test_told_anything(self):
        chance = chances(51)
        for _ in range(600):
            tree = random_tree(chance, chance.choice([1, 2, 4, 8, 20]))
            formula = formula_of(tree)
            empties = [name for name in "abcx" if chance.random() < 0.5]
            zeros = [form for form in complement_forms(formula) if chance.random() < 0.5]
            zeros += [Form({"a": 77}), Form({"zz": 1})]
            wanted = empty_when(tree, empties, [normal_of_form(form) for form in zeros])
            self.assertIs(self.told(formula, empties, zeros), wanted)

    def test_rules(self):
        form = Form({"a": 1})
        for text, empties, zeros, wanted in (
            ("a", (), (), False), ("a", ("a",), (), True), ("a", ("b",), (form,), False), ("0", (), (), True),
            ("1", (), (), False), ("full", (), (), False), ("~full", (), (), True), ("~0", (), (), False),
            ("~a", (), (form,), True), ("~a", ("a",), (form,), False), ("~a", ("a",), (), False),
            ("~~a", ("a",), (form,), True), ("~~a", (), (), False), ("0 - a", (), (form,), True),
            ("b - a", (), (form,), False), ("b - a", ("b",), (form,), True), ("3 * a", ("a",), (), True),
            ("a << 3", ("a",), (), True), ("a >> 3", ("a",), (), True), ("a + b", ("a",), (), False),
            ("a + b", ("a", "b"), (), True), ("~(2 * a)", (), (form,), True), ("~(a >> 2)", (), (form,), True),
            ("~~a + 0", ("a",), [], False), ("~(a - a)", (), (), True), ("~3", (), (Form({}, 3),), True),
            ("~6", (), (Form({}, 3),), True), ("~3", (), (), False),
        ):
            self.assertIs(self.told(Formula.read(text), empties, zeros), wanted, (text, empties, zeros))

    def test_names_of_the_parameters(self):
        self.assertIs(is_empty_when(formula=a, empties=("a",), zeros=()), True)
        self.assertEqual(str(form_of(formula=a)), "a")
        self.assertEqual(complement_forms(formula=a), [])


if __name__ == "__main__":
    unittest.main()
