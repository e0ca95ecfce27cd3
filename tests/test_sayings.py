import unittest

from tests.plain_forms import normal_of_form, saying_normals, true_when
from tests.trees import chances, random_saying_tree, random_tree, formula_of, saying_of, size_of, truth_of, value_of
from tests.values import no_integers, raised, some_values
from twozeros.errors import BadWidth, BadWord, NoWord, TooLarge
from twozeros.formulas import Formula, full, named, number
from twozeros.forms import Form
from twozeros.sayings import Saying, all_of, any_of, follows, is_empty, is_full, like, no, same, yes
from twozeros.words import Word

WIDTHS = (1, 2, 3, 4, 8, 16, 63, 64)
a, b, c = named("a"), named("b"), named("c")


def formula_of_size(size, leaf=a):
    made = leaf
    while made.size < size:
        made = ~made
    return made


def saying_of_size(size):
    made = is_empty(formula_of_size(min(size - 1, 60))) if size > 1 else yes()
    while made.size < size:
        made = ~made
    return made


def too_large(test, most, action):
    with test.assertRaises(TooLarge) as caught:
        action()
    test.assertEqual(vars(caught.exception), {"what": "size", "most": most})


class Truth(unittest.TestCase):
    def holds(self, saying, width, words, wanted):
        self.assertIs(saying.holds_at(width, words), wanted, (str(saying), width, words))

    def test_simple_sayings(self):
        for width in WIDTHS:
            most = 2 ** width - 1
            for x in some_values(width):
                for y in some_values(width):
                    words = {"a": x, "b": Word(width, y)}
                    self.holds(same(a, b), width, words, x == y)
                    self.holds(like(a, b), width, words, x % most == y % most)
                    self.holds(is_empty(a), width, words, x == 0)
                    self.holds(is_full(b), width, words, y == most)
                    self.holds(yes(), width, words, True)
                    self.holds(no(), width, words, False)

    def test_both_zeros(self):
        for width in WIDTHS:
            words = {"a": 0, "b": 2 ** width - 1}
            found = [s.holds_at(width, words) for s in (same(a, b), like(a, b), is_empty(b), is_full(a), is_full(b))]
            self.assertEqual(found, [False, True, False, False, True])

    def test_operations(self):
        truths = {False: is_empty(a), True: ~is_empty(a)}
        for one, s in truths.items():
            for other, t in ((False, is_full(b)), (True, like(b, full()))):
                for saying, wanted in (
                    (~s, not one), (s & t, one and other), (s ^ t, one != other), (s | t, one or other),
                    (follows(s, t), not one or other), (~(s & t), not (one and other)), (~(s ^ t), one == other),
                ):
                    self.holds(saying, 4, {"a": 3, "b": 0}, wanted)

    def test_at_random(self):
        chance = chances(61)
        for _ in range(800):
            tree, width = random_saying_tree(chance, chance.randint(1, 5)), chance.choice(WIDTHS)
            words = {name: chance.choice(some_values(width)) for name in "abc"}
            self.holds(saying_of(tree), width, words, truth_of(tree, width, words))

    def test_errors(self):
        saying = same(named("z"), named("c")) & is_empty(named("aa"))
        for width in no_integers() + [0, 65, -1, 10 ** 30]:
            raised(self, BadWidth, lambda: saying.holds_at(width, {}), width=width)
            raised(self, BadWidth, lambda: yes().holds_at(width, {}), width=width)
        for words, name in (({}, "aa"), ({"aa": None}, "c"), ({"aa": 99, "c": -1}, "z")):
            with self.assertRaises(NoWord) as caught:
                saying.holds_at(4, words)
            self.assertEqual(caught.exception.name, name)
        for value in no_integers() + [-1, 16, Word(5, 1)]:
            raised(self, BadWord, lambda: saying.holds_at(4, {"aa": 1, "c": value, "z": 99}), value=value)
        self.holds(yes(), 4, {"a": None}, True)
        self.holds(is_empty(a), 64, {"a": 0, "b": "no"}, True)


class Made(unittest.TestCase):
    def test_names_and_sizes(self):
        saying = same(named("z") + 1, named("b") - named("aa")) & ~is_full(3 * named("b")) ^ yes()
        self.assertEqual((saying.names, saying.size), (("aa", "b", "z"), 3 + 3 + 1 + 1 + 1 + 2 + 1 + 1 + 1))
        for made, names, size in (
            (yes(), (), 1), (no(), (), 1), (is_empty(full()), (), 2), (same(a, a), ("a",), 3), (~yes(), (), 2),
            (like(b, a), ("a", "b"), 3), (yes() | no(), (), 3),
        ):
            self.assertEqual((made.names, made.size), (names, size))
        chance = chances(62)
        for _ in range(100):
            tree = random_saying_tree(chance, chance.randint(1, 8))
            self.assertEqual(saying_of(tree).size, size_of(tree))

    def test_sizes_of_150_and_151(self):
        self.assertEqual([saying_of_size(150).size, Saying.MOST_SIZE, yes().MOST_SIZE], [150, 150, 150])
        self.assertEqual(same(formula_of_size(60), formula_of_size(60)).size, 121)
        self.assertEqual((~saying_of_size(149)).size, 150)
        too_large(self, 150, lambda: ~saying_of_size(150))
        for join in (lambda s, t: s & t, lambda s, t: s ^ t, lambda s, t: s | t):
            self.assertEqual(join(saying_of_size(100), saying_of_size(49)).size, 150)
            too_large(self, 150, lambda: join(saying_of_size(100), saying_of_size(50)))
            too_large(self, 150, lambda: join(saying_of_size(75), saying_of_size(75)))
            too_large(self, 150, lambda: join(yes(), saying_of_size(149)))
        self.assertEqual(follows(saying_of_size(100), saying_of_size(48)).size, 150)
        too_large(self, 150, lambda: follows(saying_of_size(100), saying_of_size(49)))
        too_large(self, 150, lambda: follows(saying_of_size(150), yes()))

    def test_nothing_changes(self):
        saying = saying_of_size(150)
        written = str(saying)
        too_large(self, 150, lambda: saying & yes())
        self.assertEqual((str(saying), saying.size, saying.names), (written, 150, ("a",)))

    def test_all_of_and_any_of(self):
        s, t, u = is_empty(a), ~is_full(b), like(a, b)
        self.assertEqual([all_of(), any_of()], [yes(), no()])
        self.assertEqual([all_of(s), any_of(t)], [s, t])
        self.assertEqual([all_of(s, t), any_of(s, t)], [s & t, s | t])
        self.assertEqual([all_of(s, t, u, s), any_of(s, t, u, s)], [s & t & u & s, s | t | u | s])
        self.assertEqual(all_of(s | t, u ^ s), (s | t) & (u ^ s))
        self.assertEqual(all_of(*[yes()] * 75).size, 149)
        too_large(self, 150, lambda: all_of(*[yes()] * 76))
        too_large(self, 150, lambda: any_of(saying_of_size(100), saying_of_size(50)))

    def test_follows(self):
        s, t = is_empty(a), is_full(b)
        self.assertEqual([follows(s, t), follows(s=s | t, t=t & s)], [~s | t, ~(s | t) | t & s])

    def test_assignments_leave_the_saying(self):
        saying = other = is_empty(a)
        saying &= yes()
        saying |= no()
        saying ^= is_full(b)
        self.assertEqual([str(saying), str(other)], ["(isempty(a) & yes | no) ^ isfull(b)", "isempty(a)"])

    def test_names_of_the_parameters(self):
        self.assertEqual([same(e=a, f=b), like(f=b, e=a)], [same(a, b), like(a, b)])
        self.assertEqual([is_empty(e=a), is_full(e=a)], [is_empty(a), is_full(a)])
        self.assertIs(is_empty(a).holds_at(width=4, words={"a": 0}), True)
        self.assertIs(is_empty(a).truth(empties=("a",), zeros=[]), True)
        self.assertEqual(is_empty(a).replaced(formulas={"a": b}), is_empty(b))
        self.assertEqual(Saying.read(text="yes"), yes())


class Equal(unittest.TestCase):
    def test_equal_parts_only(self):
        s, t = is_empty(a), is_full(b)
        sayings = [
            yes(), no(), s, t, is_full(a), same(a, b), same(b, a), like(a, b), same(a, b + 0), ~s, ~~s, s & t, t & s,
            s | t, s ^ t, s & t & s, s & (t & s), ~(s & t), ~s & t, s & t | s, s & (t | s), s & s, ~yes(),
        ]
        for at, one in enumerate(sayings):
            for index, other in enumerate(sayings):
                self.assertIs(one == other, at == index, (str(one), str(other)))
                self.assertIs(one != other, at != index)

    def test_any_value(self):
        for value in no_integers() + [0, 1, "yes", a, named("a"), Word(4, 0), Form({}), yes]:
            for saying in (yes(), is_empty(a)):
                wanted = isinstance(value, Saying) and str(value) == str(saying)
                self.assertIs(saying == value, wanted)
                self.assertIs(value == saying, wanted)


class Replaced(unittest.TestCase):
    def test_in_all_formulas(self):
        saying = same(a, b + a) & ~is_empty(c) | like(b, a)
        self.assertEqual(saying.replaced({"a": b, "b": a}), same(b, a + b) & ~is_empty(c) | like(a, b))
        self.assertEqual(saying.replaced({"a": b, "b": c, "c": a}), same(b, c + b) & ~is_empty(a) | like(c, b))
        self.assertEqual(saying.replaced({"c": a - b, "x": full()}), same(a, b + a) & ~is_empty(a - b) | like(b, a))
        self.assertEqual(saying.replaced({}), saying)
        self.assertEqual((yes() ^ no()).replaced({"a": b}), yes() ^ no())
        self.assertEqual(str(is_empty(2 * a).replaced({"a": b + c})), "isempty(2 * (b + c))")

    def test_truth(self):
        chance = chances(63)
        for _ in range(200):
            tree, one = random_saying_tree(chance, chance.randint(1, 3)), random_tree(chance, chance.randint(1, 5))
            width = chance.choice(WIDTHS)
            words = {name: chance.choice(some_values(width)) for name in "abc"}
            changed = {**words, "a": value_of(one, width, words), "b": words["a"]}
            made = saying_of(tree).replaced({"a": formula_of(one), "b": a})
            self.assertIs(made.holds_at(width, words), truth_of(tree, width, changed))

    def test_too_large(self):
        formulas = {"a": formula_of_size(30), "b": formula_of_size(59, c)}
        self.assertEqual(is_empty(~b).replaced(formulas).size, 61)
        too_large(self, 60, lambda: is_empty(~~b).replaced(formulas))
        too_large(self, 150, lambda: (is_empty(b) & is_empty(b) & is_empty(b)).replaced(formulas))
        large_first = is_empty(b) & is_empty(b) & is_empty(b) & is_empty(a + a)
        too_large(self, 60, lambda: large_first.replaced(formulas))
        self.assertEqual((is_empty(b) & ~is_empty(a - 1)).replaced(formulas).size, 60 + 33 + 2)
        self.assertEqual(sorted(formulas), ["a", "b"])

    def test_150_and_151(self):
        three = is_empty(a) & is_empty(b) & is_full(c)
        formulas = {"a": formula_of_size(50), "b": formula_of_size(50), "c": formula_of_size(45)}
        self.assertEqual(three.replaced(formulas).size, 150)
        too_large(self, 150, lambda: three.replaced({**formulas, "c": formula_of_size(46)}))


class Forms(unittest.TestCase):
    def test_against_trees(self):
        chance = chances(64)
        for _ in range(500):
            tree = random_saying_tree(chance, chance.randint(1, 4), chance.choice([1, 3, 8]))
            found = saying_of(tree).forms()
            self.assertIs(type(found), list)
            self.assertEqual([normal_of_form(form) for form in found], saying_normals(tree))

    def test_simple_sayings(self):
        for text, wanted in (
            ("yes", []), ("no", []), ("same(a, b)", ["a - b"]), ("like(~a, ~~b)", ["a + b"]), ("isempty(a)", []),
            ("isfull(a)", ["a"]), ("isempty(~a)", ["a"]), ("isfull(~a)", ["a"]), ("isfull(~~a)", ["a"]),
            ("same(a, a)", []), ("same(~a, ~b)", ["a", "b", "a - b"]), ("isfull(full)", []), ("like(a, a + 6)", ["3"]),
            ("same(~(a + b), c - a)", ["a + b", "a", "b + c"]), ("isfull(2 * a - b)", ["b", "2 a - b"]),
            ("isfull(6)", ["3"]), ("like(a >> 3, 0)", ["a"]), ("isempty(a + b)", []), ("like(b, a)", ["a - b"]),
        ):
            self.assertEqual([str(form) for form in Saying.read(text).forms()], wanted, text)

    def test_operations_contribute_their_parts(self):
        for sign in "&^|":
            saying = Saying.read(f"~isfull(b) {sign} (like(a, b) {sign} isfull(a)) {sign} ~(isfull(b) {sign} same(b, ~a))")
            self.assertEqual([str(form) for form in saying.forms()], ["b", "a - b", "a", "a + b"])

    def test_new_lists(self):
        saying = is_full(a)
        saying.forms().clear()
        self.assertEqual(len(saying.forms()), 1)


class Told(unittest.TestCase):
    def told(self, saying, empties, zeros):
        """The answer for tuples and lists alike."""
        answers = [saying.truth(kind(empties), other(zeros)) for kind in (tuple, list) for other in (tuple, list)]
        self.assertEqual(answers, [answers[0]] * 4)
        self.assertIs(type(answers[0]), bool)
        return answers[0]

    def test_at_real_words(self):
        chance = chances(65)
        for _ in range(600):
            tree, width = random_saying_tree(chance, chance.randint(1, 4)), chance.choice((1, 2, 3, 4, 8, 64))
            saying = saying_of(tree)
            words = {name: chance.choice([0, 0, 2 ** width - 1, 1, 2 ** width // 2]) for name in "abc"}
            empties = [name for name in "abc" if words[name] == 0]
            zeros = [form for form in saying.forms() if form.rest_at(width, words) == 0]
            self.assertIs(self.told(saying, empties, zeros), truth_of(tree, width, words))

    def test_told_anything(self):
        chance = chances(66)
        for _ in range(800):
            tree = random_saying_tree(chance, chance.randint(1, 4))
            saying = saying_of(tree)
            empties = [name for name in "abcx" if chance.random() < 0.5]
            zeros = [form for form in saying.forms() if chance.random() < 0.5] + [Form({"zz": 3})]
            wanted = true_when(tree, empties, [normal_of_form(form) for form in zeros])
            self.assertIs(self.told(saying, empties, zeros), wanted)

    def test_rules(self):
        form, apart = Form({"a": 1}), Form({"a": 1, "b": -1})
        for saying, empties, zeros, wanted in (
            (yes(), (), (), True), (no(), ("a",), (form,), False), (is_empty(a), ("a",), (), True),
            (is_empty(a), (), (form,), False), (is_full(a), (), (form,), True), (is_full(a), ("a",), (form,), False),
            (is_full(a), (), (), False), (same(a, b), (), (apart,), True), (same(a, b), ("a",), (apart,), False),
            (same(a, b), ("a", "b"), (apart,), True), (same(a, b), ("a", "b"), (), False),
            (like(a, b), ("a",), (apart,), True), (like(a, b), ("a", "b"), (), False), (same(a, a), ("a",), (), True),
            (like(number(6), number(3)), (), (Form({}, 3),), True), (is_full(number(6)), (), (Form({}, 3),), True),
            (is_full(full()), (), (), True), (is_full(number(0)), (), (), False), (is_empty(number(0)), (), (), True),
        ):
            self.assertIs(self.told(saying, empties, zeros), wanted, (str(saying), empties, zeros))


class Read(unittest.TestCase):
    def test_names_of_formulas(self):
        self.assertEqual(Saying.read("same(a, b)"), same(a, b))
        self.assertEqual(Saying.read("isempty(isa)").names, ("isa",))
        self.assertEqual(Formula.read("isa"), named("isa"))


if __name__ == "__main__":
    unittest.main()
