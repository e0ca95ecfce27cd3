import itertools
import unittest

from tests.trees import chances
from tests.values import no_integers, raised
from twozeros.errors import BadLayout, NoWord, TooLarge
from twozeros.formulas import Formula, full, named
from twozeros.layouts import Layout
from twozeros.words import Word

NAMES = ("a", "rest", "b", "abcdef", "m", "n", "c", "d", "e", "z")
NO_NAMES = ["", "A", "a1", "aa bb", "abcdefg", "full", "same", "like", "isempty", "isfull", "yes", "no", "a ", "_a"]


def random_layout(chance):
    """Words and checks of any allowed sort."""
    names = chance.sample(NAMES, chance.randint(2, 10))
    many = chance.randint(max(1, len(names) - 6), min(4, len(names) - 1))
    words, checks = names[:-many], names[-many:]
    rows = []
    for at, check in enumerate(checks):
        known = words + checks[:at]
        members = chance.sample(known, chance.randint(0, len(known)))
        if not members or chance.random() < 0.4:
            members.insert(chance.randint(0, len(members)), chance.randint(1, 15))
        rows.append((check, *members))
    return words, rows


def flat_text(rows, check):
    """The written form of flat, put together by hand."""
    members = {row[0]: row[1:] for row in rows}
    parts = [flat_text(rows, member) if member in members else str(member) for member in members[check]]
    return "~(" + " + ".join(parts) + ")" if len(parts) > 1 else "~" + parts[0]


class Parts(unittest.TestCase):
    def test_attributes(self):
        layout = Layout(["a", "rest"], [("c", "a", 3, "rest"), ("d", "c")])
        self.assertEqual(layout.words, ("a", "rest"))
        self.assertEqual(layout.checks, (("c", "a", 3, "rest"), ("d", "c")))
        self.assertEqual(layout.names, ("a", "rest", "c", "d"))
        self.assertEqual([type(part) for part in (layout.words, layout.checks, layout.names)], [tuple] * 3)

    def test_lists_and_tuples_that_are_passed_stay(self):
        words, checks = ["a", "b"], [("c", "a")]
        made = Layout(words, checks)
        words.append("e")
        checks.append(("d", "b"))
        self.assertEqual((made.words, made.checks), (("a", "b"), (("c", "a"),)))
        self.assertEqual(made, Layout(("a", "b"), (("c", "a"),)))
        self.assertEqual(made, Layout(words=["a", "b"], checks=(("c", "a"),)))

    def test_random_layouts(self):
        chance = chances(11)
        seen = set()
        for _ in range(300):
            words, rows = random_layout(chance)
            layout = Layout(words, tuple(rows))
            self.assertEqual((layout.words, layout.checks), (tuple(words), tuple(rows)))
            self.assertEqual(layout.names, (*words, *[row[0] for row in rows]))
            seen.add((len(words), len(rows)))
        self.assertTrue(set(itertools.product(range(1, 7), range(1, 5))) <= seen)


class Formulas(unittest.TestCase):
    def test_written_forms(self):
        layout = Layout(("a", "rest", "b"), (("c", "a", "b"), ("d", 15), ("e", "rest"), ("f", "c", 1, "d", "a")))
        for check, covered, fresh, never_empty, flat in (
            ("c", "a + b", "~(a + b)", "~(a + b) + full", "~(a + b)"),
            ("d", "15", "~15", "~15 + full", "~15"),
            ("e", "rest", "~rest", "~rest + full", "~rest"),
            ("f", "c + 1 + d + a", "~(c + 1 + d + a)", "~(c + 1 + d + a) + full", "~(~(a + b) + 1 + ~15 + a)"),
        ):
            found = layout.covered(check), layout.fresh(check), layout.fresh(check, never_empty=True), layout.flat(check)
            self.assertEqual([str(formula) for formula in found], [covered, fresh, never_empty, flat])
            self.assertTrue(all(isinstance(formula, Formula) for formula in found))
            self.assertEqual(layout.fresh(check, never_empty=False), layout.fresh(check))
            self.assertEqual(layout.covered(check), Formula.read(covered))

    def test_random_layouts(self):
        chance = chances(12)
        large = 0
        for _ in range(300):
            words, rows = random_layout(chance)
            layout = Layout(words, rows)
            for check, *members in rows:
                covered = " + ".join([str(member) for member in members])
                fresh = f"~({covered})" if len(members) > 1 else f"~{covered}"
                self.assertEqual(str(layout.covered(check)), covered)
                self.assertEqual(str(layout.fresh(check)), fresh)
                self.assertEqual(layout.fresh(check, never_empty=True), Formula.read(fresh) + full())
                flat = flat_text(rows, check)
                if self.size_of(flat) > 60:
                    large += 1
                    raised(self, TooLarge, lambda: layout.flat(check), what="size", most=60)
                else:
                    self.assertEqual(layout.flat(check), Formula.read(flat))
        self.assertGreater(large, 3)

    def size_of(self, text):
        """How many names, numbers and signs a text of ~ and + has."""
        leaves = text.replace("~", " ").replace("+", " ").replace("(", " ").replace(")", " ").split()
        return len(leaves) + text.count("~") + text.count("+")

    def test_never_empty_is_passed_by_name_alone(self):
        with self.assertRaises(TypeError):
            Layout(["a"], [("c", "a")]).fresh("c", True)

    def test_never_empty_is_full_where_fresh_is_empty(self):
        layout = Layout(["a", "b"], [("c", "a", "b")])
        for width in (1, 2, 3):
            for a, b in itertools.product(range(2 ** width), repeat=2):
                words = {"a": a, "b": b}
                fresh = layout.fresh("c").value_at(width, words)
                never_empty = layout.fresh("c", never_empty=True).value_at(width, words)
                self.assertEqual(never_empty, Word.full(width) if fresh.is_empty else fresh)

    def test_flat_at_the_size_60(self):
        words = list("abcdef")
        checks = [("g", *words), ("h", *words, "g"), ("i", *words, "g", "h")]
        layout = Layout(words, checks + [("j", "a", "b", "c", "i")])
        self.assertEqual([layout.flat(check).size for check in "ghi"], [12, 25, 51])
        self.assertEqual(layout.flat("j").size, 58)
        sizes = []
        for members in itertools.chain.from_iterable(
            itertools.combinations(words + ["g"], many) for many in range(1, 8)
        ):
            other = Layout(words, checks + [("j", *members, "i")])
            size = 51 + sum(12 if member == "g" else 1 for member in members) + len(members) + 1
            sizes.append(size)
            if size <= 60:
                self.assertEqual(other.flat("j").size, size)
            else:
                raised(self, TooLarge, lambda: other.flat("j"), what="size", most=60)
        self.assertTrue({60, 62} <= set(sizes))

    def test_flat_at_the_size_61(self):
        words = list("abcdef")
        checks = [("g", "a"), ("h", *words, 7), ("i", *words, 7, "h", "g")]
        below, above = [Layout(words, checks + [("j", *words[:many], "i", "h", "g")]) for many in (4, 5)]
        self.assertEqual([below.flat(check).size for check in "ghij"], [2, 14, 32, 59])
        raised(self, TooLarge, lambda: above.flat("j"), what="size", most=60)

    def test_a_check_that_is_too_large_matters_only_where_it_is_covered(self):
        words = list("abcdef")
        layout = Layout(words, [("g", *words), ("h", *words, "g"), ("i", *words, "g", "h"), ("j", "a", 1)])
        self.assertEqual(str(layout.flat("j")), "~(a + 1)")
        too_large = Layout(words, [("g", *words), ("h", *words, "g"), ("i", *words, "g", "h"), ("j", "g", "i")])
        raised(self, TooLarge, lambda: too_large.flat("j"), what="size", most=60)

    def test_no_check(self):
        layout = Layout(["a", "b"], [("c", "a", "b"), ("d", "c")])
        for check in no_integers() + [0, 1, "a", "b", "e", "cc", ("c", "a", "b"), Word(4, 3)]:
            raised(self, NoWord, lambda: layout.covered(check), name=check)
            raised(self, NoWord, lambda: layout.fresh(check), name=check)
            raised(self, NoWord, lambda: layout.fresh(check, never_empty=True), name=check)
            raised(self, NoWord, lambda: layout.flat(check), name=check)


class Wrong(unittest.TestCase):
    def wrong(self, words, checks, part, at):
        raised(self, BadLayout, lambda: Layout(words, checks), part=part, at=at)

    def test_words_as_a_whole(self):
        right = [("c", "a")]
        for words in no_integers() + [0, 3, "a", "ab", [], (), list("abcdefg"), tuple("abcdefg"), {"a": "b"}]:
            if not isinstance(words, (list, tuple)) or not 1 <= len(words) <= 6:
                self.wrong(words, right, "words", None)
                self.wrong(words, None, "words", None)
        self.assertEqual(Layout(list("abcdef"), [("g", "a")]).words, tuple("abcdef"))
        self.assertEqual(Layout(("a",), right).words, ("a",))

    def test_words_one_by_one(self):
        for value in no_integers() + [0, 3, *NO_NAMES, ["a"]]:
            if value not in ("word",):
                for at in range(3):
                    words = ["a", "b", "d"]
                    words[at] = value
                    self.wrong(words, None, "words", at)
                    self.wrong(tuple(words), [("c", "a")], "words", at)

    def test_the_first_wrong_word(self):
        self.wrong(["a", None, "a"], [], "words", 1)
        self.wrong(["a", "b", "a", None], [], "words", 2)
        self.wrong(["a", "a", "b", "b"], [], "words", 1)

    def test_checks_as_a_whole(self):
        many = [(name, "a") for name in "bcdef"]
        for checks in no_integers() + [0, 3, "a", [], (), many, tuple(many), {"c": "a"}]:
            if not isinstance(checks, (list, tuple)) or not 1 <= len(checks) <= 4:
                self.wrong(["a"], checks, "checks", None)
        self.assertEqual(Layout(["a"], many[:4]).names, tuple("abcde"))

    def test_checks_one_by_one(self):
        wrong = [
            (), ("d",), ["d", "a"], ("d", "c", "d"), ("d", "d"), ("d", "e"), ("d", "x"), ("d", "a", "a"), ("d", 3, 3),
            ("d", 3, "a", 4), ("d", 1, 2), ("d", 0), ("d", 16), ("d", -1), ("d", 10 ** 30), ("d", True), ("d", "a", False),
            ("d", "full"), ("d", "A"), ("a", "b"), ("b", "a"), ("c", "a"), (3, "a"), ("full", "a"), ("", "a"),
            (None, "a"), ("d", ["a"]), ("d", ("a",)), ("d", None), ("d", "a", "c", "a"), "da", {"d": "a"}, ("d", "a", 16),
            ("d", named("a")), (named("d"), "a"), ("d", Word(4, 3)), ("abcdefg", "a"), ("d", "3"),
        ]
        for row in wrong + no_integers():
            for checks in ([("c", "a"), row, ("e", "a")], (("c", "b", 3), row, None), [("c", "b"), row, ("c", "a")]):
                self.wrong(["a", "b"], checks, "checks", 1)
        self.wrong(["a", "b"], [("d", "c"), ("c", "a")], "checks", 0)
        self.wrong(["a", "b"], [("c", "a"), ("d", "a"), ("e", "a"), ("d", "b")], "checks", 3)

    def test_members_at_the_edges(self):
        for row in (("d", 1), ("d", 15), ("d", "c"), ("d", 1, "c", "b", "a"), ("d", "a", "b", "c", 15), ("d", "b", 7, "a")):
            self.assertEqual(Layout(["a", "b"], [("c", "a"), row]).checks[1], row)

    def test_words_ahead_of_checks(self):
        self.wrong([], [], "words", None)
        self.wrong(["a", "a"], [], "words", 1)
        self.wrong(["a", "a"], [("a", "b")], "words", 1)
        self.wrong(["a"], [], "checks", None)


class Equal(unittest.TestCase):
    def test_equal(self):
        layout = Layout(["a", "b"], [("c", "a", 3), ("d", "c")])
        self.assertTrue(layout == Layout(("a", "b"), (("c", "a", 3), ("d", "c"))))
        for words, checks in (
            (["b", "a"], [("c", "a", 3), ("d", "c")]), (["a", "b"], [("c", 3, "a"), ("d", "c")]),
            (["a", "b"], [("c", "a", 3)]), (["a", "b"], [("c", "a", 2), ("d", "c")]), (["a"], [("c", "a", 3), ("d", "c")]),
            (["a", "b"], [("c", "a", 3), ("e", "c")]), (["a", "b"], [("d", "a"), ("c", "a", 3)]),
        ):
            self.assertFalse(layout == Layout(words, checks))
            self.assertTrue(layout != Layout(words, checks))

    def test_other_values(self):
        layout = Layout(["a", "b"], [("c", "a", 3)])
        for value in no_integers() + [0, 1, "a", ("a", "b"), (("a", "b"), (("c", "a", 3),)), Layout]:
            self.assertIs(layout == value, False)
            self.assertIs(value == layout, False)


if __name__ == "__main__":
    unittest.main()
