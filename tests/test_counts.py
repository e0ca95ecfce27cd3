import unittest
from itertools import combinations, product

from tests.plain_forms import saying_normals, true_when
from tests.trees import chances, random_saying_tree, saying_of, truth_of
from tests.values import no_integers, raised
from twozeros import finding
from twozeros.counts import count, example, examples, weighted, weights
from twozeros.errors import BadWidth, NoWord, TooLarge
from twozeros.sayings import Saying, no, yes
from twozeros.stairs import solutions
from twozeros.words import Word

MOST_WIDTH = {0: 8, 1: 7, 2: 4, 3: 3, 4: 2}


def random_sayings(seed, many, most_names=3):
    """Trees and sayings that are not too large."""
    chance = chances(seed)
    while many:
        names = "abcd"[:chance.randint(1, most_names)]
        tree = random_saying_tree(chance, chance.randint(1, 4), 4, names)
        saying = saying_of(tree)
        numbers = [abs(worth) for form in saying.forms() for worth in form.row(saying.names)]
        if max(numbers, default=0) <= 1000 and len(saying.forms()) <= 6:
            many -= 1
            yield tree, saying


def all_words(saying, width):
    return [dict(zip(saying.names, row)) for row in product(range(2 ** width), repeat=len(saying.names))]


def inputs(tree, saying, width):
    """All inputs at which the saying holds, by going through all of them."""
    return [words for words in all_words(saying, width) if truth_of(tree, width, words)]


def subsets(members):
    return [row for size in range(len(members) + 1) for row in combinations(members, size)]


def plain_weights(tree, saying):
    """The weights as [7.2] tells them, by the rules of EMPTY and of rests alone."""
    normals = saying_normals(tree)
    found = []
    for empties in subsets(saying.names):
        truths = {chosen: true_when(tree, empties, [normals[at] for at in chosen]) for chosen in subsets(range(len(normals)))}
        for chosen in truths:
            weight = sum((-1) ** (len(chosen) - len(inner)) * truths[inner] for inner in subsets(chosen))
            if weight:
                found.append((empties, chosen, weight))
    return found


class Weights(unittest.TestCase):
    def test_against_the_sum(self):
        for tree, saying in random_sayings(101, 150):
            found = list(weights(saying))
            self.assertEqual(found, plain_weights(tree, saying), str(saying))
            for empties, chosen, weight in found:
                self.assertEqual([type(empties), type(chosen), type(weight)], [tuple, tuple, int])

    def test_order(self):
        saying = Saying.read("isempty(a) & isfull(c) | isempty(b) & isfull(a + b) | isempty(c) & isfull(b) | yes")
        found = list(weights(saying))
        order = sorted(found, key=lambda row: (len(row[0]), row[0], len(row[1]), row[1]))
        self.assertEqual(found, order)
        self.assertEqual([row[0] for row in found], [(), ("a",), ("b",), ("c",), ("a", "b"), ("a", "c"), ("b", "c"), ("a", "b", "c")])

    def test_without_names_and_without_forms(self):
        self.assertEqual([list(weights(yes())), list(weights(no()))], [[((), (), 1)], []])
        self.assertEqual(list(weights(Saying.read("isempty(a)"))), [(("a",), (), 1)])
        self.assertEqual(list(weights(Saying.read("like(6, 3)"))), [((), (0,), 1)])
        self.assertEqual(list(weights(saying=Saying.read("isfull(a)"))), [((), (0,), 1)])


class Counts(unittest.TestCase):
    def test_all_words(self):
        for tree, saying in random_sayings(102, 250):
            for width in range(1, MOST_WIDTH[len(saying.names)] + 1):
                self.assertEqual(count(saying, width), len(inputs(tree, saying, width)), (str(saying), width))

    def test_without_names(self):
        for text in ("yes", "no", "isempty(3)", "like(3, 0)", "isfull(7)", "same(5, 2) | isfull(15)", "like(15, 0) ^ yes"):
            saying = Saying.read(text)
            for width in (1, 2, 3, 4, 5, 8, 64):
                self.assertEqual(count(saying, width), int(saying.holds_at(width, {})), (text, width))
        self.assertEqual([count(yes(), 400), count(no(), 400), count(Saying.read("like(15, 0)"), 400)], [1, 0, 0])

    def test_wide(self):
        for width in (63, 64, 65, 399, 400):
            most = 2 ** width - 1
            by_three = 3 if width % 2 == 0 else 1
            for text, wanted in (
                ("like(3 * a, 0)", by_three + 1), ("same(a, b)", most + 1), ("like(a, b)", most + 3),
                ("isfull(a + b + c)", ((most + 1) ** 3 - 1) // most), ("isempty(a + b)", 1), ("isempty(a)", 1),
                ("~isfull(a) | yes", most + 1), ("like(3 * a, 1)", 0 if by_three == 3 else 1),
                ("same(a, b) & ~like(a, 0)", most - 1), ("like(3 * a, b) ^ yes", (most + 1) ** 2 - most - 2 - by_three),
                ("like(9 * a + 3 * b, 0) & like(b, 0)", 2 * ((9 if width % 6 == 0 else by_three) + 1)),
            ):
                self.assertEqual(count(Saying.read(text), width), wanted, (text, width))

    def test_the_sum_of_the_fact(self):
        for tree, saying in random_sayings(103, 60):
            forms, names = saying.forms(), saying.names
            for width in (5, 12, 60):
                self.assertEqual(count(saying, width), self.added(plain_weights(tree, saying), forms, names, width))

    def added(self, found, forms, names, width):
        total = 0
        for empties, chosen, weight in found:
            free = [name for name in names if name not in empties]
            rows = [forms[at].row(free)[:-1] for at in chosen]
            lists = solutions(rows, [forms[at].constant for at in chosen], width) if chosen else (2 ** width - 1) ** len(free)
            total += weight * lists
        return total

    def test_widths(self):
        for width in no_integers() + [0, -1, 401, 10 ** 30, Word(4, 4)]:
            raised(self, BadWidth, lambda: count(yes(), width), width=width)
        self.assertEqual(count(saying=yes(), width=1), 1)


class Examples(unittest.TestCase):
    def test_all_inputs(self):
        for tree, saying in random_sayings(104, 120):
            for width in range(1, MOST_WIDTH[len(saying.names)] + 1):
                self.assertEqual(list(examples(saying, width)), inputs(tree, saying, width))

    def test_ascending(self):
        found = list(examples(Saying.read("like(a, b)"), 2))
        self.assertEqual([(row["a"], row["b"]) for row in found], [(0, 0), (0, 3), (1, 1), (2, 2), (3, 0), (3, 3)])
        self.assertEqual([list(examples(yes(), 64)), list(examples(no(), 64))], [[{}], []])

    def test_4096_inputs_and_more(self):
        for text, width in (("isempty(a)", 12), ("isempty(a + b)", 6), ("isempty(a + b + c)", 4), ("isempty(a + b + c + d)", 3)):
            saying = Saying.read(text)
            self.assertEqual(list(examples(saying, width)), [{name: 0 for name in saying.names}])
            with self.assertRaises(TooLarge) as caught:
                next(examples(saying, width + 1))
            self.assertEqual(vars(caught.exception), {"what": "inputs", "most": 4096})
        self.assertEqual(len(list(examples(Saying.read("same(a, a) | isempty(a)"), 12))), 4096)

    def test_errors_come_when_the_iteration_begins(self):
        saying = Saying.read("isempty(a)")
        for width in no_integers() + [0, 65, -1, 10 ** 30, Word(4, 4)]:
            made = examples(saying, width)
            raised(self, BadWidth, lambda: next(made), width=width)
        made = examples(saying, 64)
        with self.assertRaises(TooLarge):
            next(made)
        self.assertEqual(list(examples(saying=saying, width=1)), [{"a": 0}])


class Example(unittest.TestCase):
    def check_small(self, sayings):
        for tree, saying in sayings:
            for width in range(1, MOST_WIDTH[len(saying.names)] + 1):
                found = example(saying, width)
                if found is None:
                    self.assertEqual(inputs(tree, saying, width), [], (str(saying), width))
                else:
                    self.assertEqual(sorted(found), list(saying.names))
                    self.assertIn(found, all_words(saying, width))
                    self.assertTrue(truth_of(tree, width, found), (str(saying), width))

    def check_wide(self, sayings, widths=(11, 12, 60, 63, 64)):
        for tree, saying in sayings:
            for width in widths:
                found = example(saying, width)
                self.assertIs(found is None, count(saying, width) == 0)
                self.assertEqual(found, example(Saying.read(str(saying)), width))
                if found is not None:
                    self.assertEqual(sorted(found), list(saying.names))
                    self.assertTrue(all(type(v) is int and 0 <= v < 2 ** width for v in found.values()))
                    self.assertTrue(truth_of(tree, width, found))

    def test_small(self):
        self.check_small(random_sayings(105, 200))

    def test_wide(self):
        self.check_wide(random_sayings(106, 120, 4))

    def test_very_wide(self):
        for text in ("isempty(a) | same(a, b)", "~like(3 * a, 0) & like(9 * a, 0)", "like(3 * a + b, 5) & ~like(a, b)", "isfull(a - b)"):
            saying = Saying.read(text)
            for width in (400, 720, 4999, 5040):
                found = example(saying, width)
                self.assertTrue(self.holds(text, width, found), (text, width))

    def holds(self, text, width, words):
        most = 2 ** width - 1
        if words is None:
            return text[0] == "~" and width % 6 != 0
        a, b = words["a"], words.get("b")
        if text == "isempty(a) | same(a, b)":
            return a == 0 or a == b
        if text[0] == "~":
            return 3 * a % most != 0 and 9 * a % most == 0
        if text[0] == "l":
            return (3 * a + b - 5) % most == 0 and (a - b) % most != 0
        return (a - b) % most == 0 and (a > 0 or b < most)

    def test_surely(self):
        """The same without luck: each value is chosen so that some are left for the next ones."""
        tried = finding.TRIED
        finding.TRIED = 0
        try:
            self.check_small(random_sayings(107, 150))
            self.check_wide(random_sayings(108, 60, 4), (11, 12, 60))
            self.check_few()
        finally:
            finding.TRIED = tried

    def test_few_inputs(self):
        self.check_few()

    def check_few(self):
        """Sayings that hold at few words, among them such as each value leaves only few to the next ones."""
        for text in (
            "like(3 * a, 0) & ~like(a, 0)", "like(7 * a, 0) & ~like(a, 0)", "like(3 * a, 1) & ~like(a, 2)",
            "like(9 * a, 0) & ~like(3 * a, 0) & ~like(a, b) & like(3 * b, 0)", "like(a + b, 3) & like(a - b, 5)",
            "~like(a, 0) & ~like(a, 1) & ~like(a, 2) & ~like(a, 3) & ~like(a, 4) & like(7 * a, 0)",
            "~like(a, b) & ~like(b, c) & ~like(a, c) & like(3 * a, 0) & like(3 * b, 0) & like(3 * c, 0)",
            "~like(a, b) & ~like(a, 2 * b) & ~like(b, 2 * a) & like(7 * a, 0) & like(7 * b, 0) & ~like(b, 0)",
            "~like(a, 0) & ~like(a, 1) & ~like(a, 2) | isfull(a)", "~isempty(a) & like(a, 0)", "isempty(a) & like(a, 0)", "like(5 * a, b) & like(5 * b, a) & ~like(a, 0)",
            "like(5 * (3 * a), 5) & ~like(3 * a, 1)", "~like(5 * a, 0) & like(5 * (3 * a), 3 * b) & ~like(5 * a, b)",
        ):
            saying = Saying.read(text)
            for width in (*range(1, 13), 24, 60):
                found = example(saying, width)
                self.assertIs(found is None, count(saying, width) == 0, (text, width))
                self.assertTrue(found is None or saying.holds_at(width, found), (text, width, found))

    def test_without_names(self):
        self.assertEqual([example(yes(), 5040), example(no(), 5040), example(Saying.read("like(7, 0)"), 3)], [{}, None, {}])
        self.assertIsNone(example(Saying.read("like(7, 0)"), 4))

    def test_widths(self):
        for width in no_integers() + [0, -1, 5041, 10 ** 30, Word(4, 4)]:
            raised(self, BadWidth, lambda: example(yes(), width), width=width)
            raised(self, BadWidth, lambda: example(no(), width), width=width)
        self.assertEqual(example(saying=Saying.read("isempty(a)"), width=5040), {"a": 0})


class Weighted(unittest.TestCase):
    def rows(self, tree, saying, name, words, width):
        """How many rows of words and words for the other names there are, by going through all of them."""
        totals = {}
        for row in product(range(2 ** width), repeat=words):
            total = sum(row)
            total = (total - 1) % (2 ** width - 1) + 1 if total else 0
            totals[total] = totals.get(total, 0) + 1
        return sum(totals.get(found[name], 0) for found in inputs(tree, saying, width))

    def test_all_rows(self):
        for tree, saying in random_sayings(109, 60):
            for name in saying.names:
                for words, width in ((0, 1), (0, 2), (1, 1), (1, 2), (2, 1), (2, 2), (3, 1), (3, 2), (4, 2), (2, 3)):
                    wanted = self.rows(tree, saying, name, words, width)
                    self.assertEqual(weighted(saying, name, words, width), wanted, (str(saying), name, words, width))

    def test_many_words(self):
        saying = Saying.read("isfull(r + c)")
        for width, words in ((1, 1000), (9, 1000), (64, 100), (400, 23), (400, 0)):
            most, rows = 2 ** width - 1, 2 ** (width * words)
            self.assertEqual(weighted(saying, "r", words, width), 1 + (most + 1) * ((rows - 1) // most))

    def test_errors(self):
        saying = Saying.read("isfull(r + m)")
        for width in no_integers() + [0, 401, 10 ** 30]:
            raised(self, BadWidth, lambda: weighted(saying, None, 1000, width), width=width)
        for name in no_integers() + ["a", "", 0, Word(4, 3), "R"]:
            raised(self, NoWord, lambda: weighted(saying, name, 1000, 400), name=name)
            raised(self, NoWord, lambda: weighted(yes(), name, 0, 1), name=name)
        for words, width in ((1000, 10), (24, 400), (157, 63), (155, 64), (999, 10)):
            self.assertGreater(width * (words + 2), 10000)
            with self.assertRaises(TooLarge) as caught:
                weighted(saying, "r", words, width)
            self.assertEqual(vars(caught.exception), {"what": "bits", "most": 10000})

    def test_just_10000_bits(self):
        saying = Saying.read("isfull(r + m)")
        for words, width in ((998, 10), (23, 400), (1, 1), (78, 125)):
            self.assertLessEqual(width * (words + 2), 10000)
            self.assertGreater(weighted(saying, "r", words, width), 0)
        with self.assertRaises(TooLarge):
            weighted(saying, "r", 999, 10)
        self.assertEqual(weighted(saying=saying, name="r", words=2, width=1), 7)


if __name__ == "__main__":
    unittest.main()
