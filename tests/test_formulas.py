import unittest

from tests.trees import chances, formula_of, random_tree, size_of, value_of
from tests.values import added, added_times, bits_of, no_integers, raised, some_values, turned_bits
from twozeros.errors import BadFormula, BadName, BadWidth, BadWord, NoWord, TooLarge
from twozeros.formulas import Formula, full, named, number
from twozeros.words import Word

WIDTHS = (1, 2, 3, 5, 8, 16, 31, 63, 64)
NO_NAMES = ("full", "same", "like", "isempty", "isfull", "yes", "no")
a, b, c = named("a"), named("b"), named("c")


def of_size(size):
    """A formula of this size."""
    made = a
    while made.size < size:
        made = ~made
    return made


def pairs(width):
    return [(x, y) for x in some_values(width) for y in some_values(width)]


class Values(unittest.TestCase):
    def gives(self, formula, width, words, wanted):
        word = formula.value_at(width, words)
        self.assertIs(type(word), Word)
        self.assertEqual((word.width, word.value), (width, wanted), (str(formula), words))

    def test_names(self):
        for width in WIDTHS:
            for x in some_values(width):
                self.gives(a, width, {"a": x}, x)
                self.gives(a, width, {"a": Word(width, x)}, x)
                self.gives(a, width, {"b": 0, "a": x, "c": None}, x)

    def test_numbers(self):
        for width in (*range(1, 7), 16, 63, 64):
            for k in range(16):
                self.gives(number(k), width, {}, added_times(width, k, 1))
        self.assertEqual([number(3).value_at(w, {}).value for w in (1, 2, 3)], [1, 3, 3])
        self.assertTrue(number(0).value_at(1, {}).is_empty)
        self.assertTrue(number(15).value_at(4, {}).is_full)

    def test_full(self):
        for width in WIDTHS:
            self.gives(full(), width, {}, 2 ** width - 1)

    def test_sums_and_differences(self):
        for width in WIDTHS:
            most = 2 ** width - 1
            for x, y in pairs(width):
                words = {"a": x, "b": Word(width, y)}
                self.gives(a + b, width, words, added(width, x, y))
                self.gives(a - b, width, words, added(width, x, most - y))
                self.gives(a - a, width, words, most)
                self.gives(3 - a, width, words, added(width, added_times(width, 3, 1), most - x))
                self.gives(a + 0, width, words, x)

    def test_complements(self):
        for width in WIDTHS:
            for x in some_values(width):
                self.gives(~a, width, {"a": x}, 2 ** width - 1 - x)
                self.gives(~~a, width, {"a": x}, x)

    def test_products(self):
        for width in WIDTHS:
            for x in some_values(width):
                for k in range(1, 10):
                    self.gives(k * a, width, {"a": x}, added_times(width, k, x))
                    self.gives(a * k, width, {"a": x}, added_times(width, k, x))

    def test_turns(self):
        for width in WIDTHS:
            for x in some_values(width):
                bits = bits_of(width, x)
                for k in range(16):
                    self.gives(a << k, width, {"a": x}, int(turned_bits(bits, k), 2))
                    self.gives(a >> k, width, {"a": x}, int(turned_bits(bits, -k), 2))
                    self.gives(a << k, width, {"a": x}, (2 ** k * Word(width, x)).value)

    def test_any_order_and_grouping(self):
        for width in WIDTHS:
            for x, y in pairs(width):
                words = {"a": x, "b": y, "c": 1}
                found = [f.value_at(width, words) for f in (a + b + c, a + (b + c), c + b + a, b + (a + c))]
                self.assertEqual(found, [found[0]] * 4)

    def test_formulas_at_random(self):
        chance = chances(31)
        for _ in range(1500):
            tree = random_tree(chance, chance.choice([1, 2, 3, 5, 9, 20, 60]))
            width = chance.choice(WIDTHS)
            words = {name: chance.choice(some_values(width)) for name in "abc"}
            self.gives(formula_of(tree), width, words, value_of(tree, width, words))

    def test_words_stay(self):
        words = {"a": 3, "b": Word(4, 2)}
        (a + b).value_at(4, words)
        self.assertEqual(words, {"a": 3, "b": Word(4, 2)})

    def test_names_of_the_parameters(self):
        self.assertEqual(named(name="a").value_at(width=4, words={"a": 3}), Word(4, 3))
        self.assertEqual(number(c=3).replaced(formulas={}), number(3))
        self.assertEqual(Formula.read(text="a + 3"), a + 3)


class WrongWords(unittest.TestCase):
    def test_width_first(self):
        for width in no_integers() + [0, -1, 65, 10 ** 30, Word(4, 4)]:
            raised(self, BadWidth, lambda: (a + b).value_at(width, {}), width=width)
            raised(self, BadWidth, lambda: number(1).value_at(width, {"a": None}), width=width)

    def test_the_least_name_that_lacks(self):
        formula = named("z") + named("c") - named("aa")
        for words, name in (({}, "aa"), ({"aa": None}, "c"), ({"aa": 99, "c": -1}, "z"), ({"z": 1, "c": 1}, "aa")):
            with self.assertRaises(NoWord) as caught:
                formula.value_at(4, words)
            self.assertEqual(caught.exception.name, name)

    def test_the_least_name_with_a_wrong_word(self):
        for value in no_integers() + [-1, 16, 10 ** 30, Word(3, 1), Word(5, 1)]:
            raised(self, BadWord, lambda: (c + a).value_at(4, {"a": value, "c": 99}), value=value)
            raised(self, BadWord, lambda: (c + a).value_at(4, {"a": 15, "c": value}), value=value)
        raised(self, BadWord, lambda: (a + b).value_at(1, {"a": 1, "b": 2}), value=2)

    def test_other_keys_do_not_matter(self):
        self.assertEqual((a + 1).value_at(4, {"a": 2, "b": None, "": [], "full": 99}).value, 3)


class Made(unittest.TestCase):
    def test_names(self):
        for name in ("a", "z", "abcdef", "fulls", "ful", "yesno", "isfu", "nono"):
            self.assertEqual((named(name).names, named(name).size, str(named(name))), ((name,), 1, name))
        wrong = ["", "abcdefg", "A", "a1", "a b", "a ", " a", "\u00e9", "a\n", "_", 0, 3, -1, Word(4, 3), a, *NO_NAMES]
        for name in no_integers() + wrong:
            if name not in ("word",):
                raised(self, BadName, lambda: named(name), name=name)

    def test_numbers(self):
        for k in range(16):
            self.assertEqual((number(k).names, number(k).size, str(number(k))), ((), 1, str(k)))
        for k in no_integers() + [-1, 16, 10 ** 30, Word(4, 3), a]:
            raised(self, BadFormula, lambda: number(k), value=k)

    def test_names_in_a_formula(self):
        formula = named("z") + (named("b") - named("aa")) * 3 + named("b") + full() - 7
        self.assertEqual(formula.names, ("aa", "b", "z"))
        self.assertEqual((full() + 3).names, ())

    def test_integers_on_either_side(self):
        self.assertEqual([a + 3, 3 + a, a - 0, 15 - a], [a + number(3), number(3) + a, a - number(0), number(15) - a])
        for k in (-1, 16, 99, -10 ** 30, 10 ** 30):
            for action in (lambda: a + k, lambda: k + a, lambda: a - k, lambda: k - a):
                raised(self, BadFormula, action, value=k)

    def test_factors(self):
        for k in range(1, 10):
            self.assertEqual(k * a, a * k)
            self.assertEqual((str(k * a), (k * a).size), (f"{k} * a", 2))
        for k in (0, -1, 10, 10 ** 30):
            raised(self, BadFormula, lambda: k * a, value=k)
            raised(self, BadFormula, lambda: a * k, value=k)

    def test_places(self):
        for k in range(16):
            self.assertEqual((str(a << k), str(a >> k), (a << k).size), (f"a << {k}", f"a >> {k}", 2))
        for k in (-1, 16, 10 ** 30):
            raised(self, BadFormula, lambda: a << k, value=k)
            raised(self, BadFormula, lambda: a >> k, value=k)

    def test_assignments_leave_the_formula(self):
        formula = other = a
        formula += b
        formula -= 1
        formula *= 2
        formula <<= 3
        formula >>= 4
        self.assertEqual(str(formula), "2 * (a + b - 1) << 3 >> 4")
        self.assertEqual(other, named("a"))

    def test_class_value(self):
        self.assertEqual((Formula.MOST_SIZE, a.MOST_SIZE), (60, 60))


class Sizes(unittest.TestCase):
    def test_sizes(self):
        chance = chances(32)
        for size in list(range(1, 61)) * 3:
            tree = random_tree(chance, size)
            self.assertEqual(size_of(tree), size)
            self.assertEqual(formula_of(tree).size, size)
        self.assertEqual((9 * a << 15).size, 3)
        self.assertEqual((a + a - a).size, 5)

    def test_sixty_and_one_more(self):
        for action in (lambda f: ~f, lambda f: 9 * f, lambda f: f * 1, lambda f: f << 15, lambda f: f >> 0):
            self.assertEqual(action(of_size(59)).size, 60)
            self.assertTooLarge(lambda: action(of_size(60)))
        for action in (lambda f: f + 1, lambda f: 1 + f, lambda f: f - a, lambda f: a - f, lambda f: 0 - f):
            self.assertEqual(action(of_size(58)).size, 60)
            self.assertTooLarge(lambda: action(of_size(59)))
            self.assertTooLarge(lambda: action(of_size(60)))

    def test_with_itself(self):
        self.assertTooLarge(lambda: of_size(30) + of_size(30))
        half = of_size(29)
        self.assertEqual([(half + half).size, (half - of_size(30)).size], [59, 60])
        self.assertTooLarge(lambda: of_size(30) - of_size(30))

    def test_other_errors_come_first(self):
        large = of_size(60)
        for action, value in (
            (lambda: large + 16, 16), (lambda: -1 - large, -1), (lambda: 0 * large, 0), (lambda: large * 10, 10),
            (lambda: large << 16, 16), (lambda: large >> -1, -1),
        ):
            raised(self, BadFormula, action, value=value)

    def test_nothing_changes(self):
        large = of_size(60)
        written = str(large)
        self.assertTooLarge(lambda: ~large)
        self.assertEqual((str(large), large.size, large.names), (written, 60, ("a",)))

    def assertTooLarge(self, action):
        with self.assertRaises(TooLarge) as caught:
            action()
        self.assertEqual(vars(caught.exception), {"what": "size", "most": 60})


class Replaced(unittest.TestCase):
    def test_all_at_once(self):
        formula = a - 2 * b + ~c
        self.assertEqual(formula.replaced({"a": b, "b": a}), b - 2 * a + ~c)
        self.assertEqual(formula.replaced({"a": b, "b": c, "c": a}), b - 2 * c + ~a)
        self.assertEqual(formula.replaced({"a": a + a, "c": number(3)}), a + a - 2 * b + ~number(3))
        self.assertEqual(formula.replaced({"d": b, "e": full()}), formula)
        self.assertEqual(formula.replaced({}), formula)
        self.assertEqual((a + a << 3).replaced({"a": b - 1}), (b - 1) + (b - 1) << 3)
        self.assertEqual(str((a - b).replaced({"b": a - b, "a": b << 1})), "(b << 1) - (a - b)")

    def test_values(self):
        chance = chances(33)
        for _ in range(300):
            tree, one, other = [random_tree(chance, chance.randint(1, 6)) for _ in range(3)]
            width = chance.choice(WIDTHS)
            words = {name: chance.choice(some_values(width)) for name in "abc"}
            changed = {**words, "a": value_of(one, width, words), "b": value_of(other, width, words)}
            made = formula_of(tree).replaced({"a": formula_of(one), "b": formula_of(other)})
            self.assertEqual(made.value_at(width, words).value, value_of(tree, width, changed))

    def test_texts_and_sizes(self):
        chance = chances(37)
        for _ in range(300):
            tree = random_tree(chance, chance.randint(1, 20))
            made = formula_of(tree).replaced({"a": b, "b": a})
            text = str(formula_of(tree)).replace("a", "x").replace("b", "a").replace("x", "b")
            self.assertEqual((str(made), made.size, made), (text, size_of(tree), Formula.read(text)))
            self.assertEqual(str(~made), str(~Formula.read(text)) if made.size < 60 else "")

    def test_too_large(self):
        formulas = {"a": of_size(20)}
        self.assertEqual((a + a + 9 * b).replaced({"a": of_size(27)}).size, 58)
        self.assertEqual((a + a + a).replaced({"a": of_size(19)}).size, 59)
        with self.assertRaises(TooLarge) as caught:
            (a + a + a).replaced(formulas)
        self.assertEqual(vars(caught.exception), {"what": "size", "most": 60})
        self.assertEqual(formulas, {"a": of_size(20)})
        self.assertEqual(of_size(60).replaced({"a": b}).size, 60)


class Equal(unittest.TestCase):
    def test_equal_parts_only(self):
        formulas = [
            a, b, named("aa"), number(1), number(2), full(), a + b, b + a, a - b, a + b + c, a + (b + c), 2 * a, 3 * a,
            a << 2, a >> 2, a << 3, ~a, ~~a, ~a + b, ~(a + b), a + a, 2 * number(2), number(1) + 1, 0 + a,
        ]
        for at, one in enumerate(formulas):
            for index, other in enumerate(formulas):
                self.assertIs(one == other, at == index, (str(one), str(other)))
                self.assertIs(one != other, at != index)

    def test_made_alike(self):
        self.assertEqual(named("a") + 2 * named("b"), Formula.read("a + 2 * b"))

    def test_any_value(self):
        for value in no_integers() + [0, 1, 3, "a", str(a), Word(4, 3), named]:
            for formula in (a, number(1), number(0), full()):
                self.assertIs(formula == value, isinstance(value, Formula) and str(value) == str(formula))
                self.assertIs(value == formula, isinstance(value, Formula) and str(value) == str(formula))


if __name__ == "__main__":
    unittest.main()
