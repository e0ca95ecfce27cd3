import itertools
import unittest

from tests.trees import chances, formula_of, random_saying_tree, random_tree, saying_of, truth_of, value_of
from tests.values import no_integers, raised
from twozeros.errors import BadBox, BadName, BadSaying, BadWord, Dropped, NoWord
from twozeros.formulas import Formula, named, number
from twozeros.boxes import Anew, Box, Look, LookMend, Mend
from twozeros.layouts import Layout
from twozeros.messages import Message
from twozeros.sayings import Saying, is_empty, no, yes
from twozeros.words import Word

LAYOUT = Layout(["a", "b"], [("c", "a", "b")])
NO_NAMES = ["", "A", "a1", "abcdefg", "full", "same", "isempty", "yes", "no", 0, 3]


def read(text):
    return Formula.read(text)


def values_of(message):
    words = message.all_words()
    return [words[name].value for name in message.layout.names]


class Made(unittest.TestCase):
    def test_attributes(self):
        writes = (("a", read("b + n")), ("x", read("3")))
        for box in (Box("gate", *writes), Box.of("gate", writes), Box.of("gate", list(writes)), Box.of(name="gate", writes=writes)):
            self.assertIs(type(box), Box)
            self.assertEqual((box.name, box.writes, box.test, box.names), ("gate", writes, yes(), ("a", "b", "n", "x")))
            self.assertEqual([type(part) for part in (box.writes, box.names)], [tuple, tuple])
        self.assertEqual((Box("").writes, Box("").names, Box("").name), ((), (), ""))

    def test_names_of_tests(self):
        look = Look("eye", Saying.read("isempty(z) & like(a, p)"), ("m", named("b")))
        self.assertEqual((look.name, look.test, look.writes), ("eye", Saying.read("isempty(z) & like(a, p)"), (("m", named("b")),)))
        self.assertEqual(look.names, ("a", "b", "m", "p", "z"))
        self.assertEqual(Look("eye", no()).names, ())

    def test_wrong_writes(self):
        right = ("a", named("b"))
        wrong = [("a",), ("a", "b"), ["a", named("b")], ("a", named("b"), 0), (named("a"), named("b")), ("a", yes()), ("a", 3),
                 *[(name, named("b")) for name in NO_NAMES], (None, named("b")), (["a"], named("b")), (Word(4, 1), number(1))]
        for write in wrong + no_integers() + [0, 7, Word(4, 3)]:
            for at in range(3):
                writes = [right, ("b", number(3)), right]
                writes[at] = write
                raised(self, BadBox, lambda: Box("gate", *writes), at=at)
                raised(self, BadBox, lambda: Box.of("gate", writes), at=at)
                raised(self, BadBox, lambda: Look("gate", yes(), *writes), at=at)
        raised(self, BadBox, lambda: Box("gate", right, None, ("a",)), at=1)

    def test_of_leaves_what_was_passed(self):
        writes = [("a", named("b"))]
        box = Box.of("gate", writes)
        writes.append(("b", named("a")))
        self.assertEqual(box.writes, (("a", named("b")),))

    def test_equal(self):
        box = Box("gate", ("a", named("b")))
        self.assertTrue(box == Box.of("gate", [("a", named("b"))]))
        self.assertTrue(box == Look("gate", yes(), ("a", named("b"))))
        self.assertTrue(Look("gate", yes(), ("a", named("b"))) == box)
        for other in (
            Box("gates", ("a", named("b"))), Box("gate", ("a", named("a"))), Box("gate", ("b", named("b"))), Box("gate"),
            Box("gate", ("a", named("b")), ("a", named("b"))), Look("gate", ~no(), ("a", named("b"))),
        ):
            self.assertFalse(box == other)
            self.assertTrue(box != other)
        self.assertTrue(Mend("m", "c", "a", "n") == LookMend("m", yes(), "c", "a", "n"))
        self.assertFalse(Mend("m", "c", "a", "n") == Mend("m", "c", "a", "n", sort="eager"))
        for value in no_integers() + [0, 1, "gate", box.writes, Box]:
            if not isinstance(value, Box):
                self.assertIs(box == value, False)
                self.assertIs(value == box, False)


class Called(unittest.TestCase):
    def test_no_write(self):
        message = Message(LAYOUT, 4, {"a": 9, "b": 8, "c": 1})
        made = Box("gate")(message, {})
        self.assertEqual(made, message)
        self.assertIsNot(made, message)
        made["a"] = 1
        made.bits = 9
        self.assertEqual((message.width, values_of(message)), (4, [9, 8, 1]))
        self.assertEqual(values_of(Box("gate")(message=message, news={})), [9, 8, 1])

    def test_writes_that_stand_on_one_another(self):
        message = Message(LAYOUT, 4, {"a": 1, "b": 2, "c": 3})
        box = Box("gate", ("a", read("a + b")), ("b", read("a + b")), ("c", read("a + b + n")), ("a", read("n")))
        self.assertEqual(values_of(box(message, {"n": 5})), [5, 5, 13])
        self.assertEqual(values_of(message), [1, 2, 3])

    def test_targets_are_set_to_values_alone(self):
        message = Message(LAYOUT, 4, {"a": 9, "b": 8})
        self.assertEqual(values_of(Box("gate", ("a", named("n")))(message, {"n": 3})), [3, 8, 13])

    def test_news(self):
        message = Message(LAYOUT, 4, {"a": 9, "b": 8})
        box = Box("gate", ("a", read("n + p")))
        for news in ({"n": 3, "p": 4}, {"p": Word(4, 4), "n": 3}, {"n": Word(4, 3), "p": Word(4, 4), "x": None, "a": 99, "c": -1}):
            before = dict(news)
            self.assertEqual(values_of(box(message, news)), [7, 8, 13])
            self.assertEqual(news, before)

    def test_random_boxes(self):
        chance = chances(21)
        dropped = 0
        for _ in range(300):
            width = chance.choice((1, 2, 3, 4, 64))
            words = {name: chance.choice((0, 2 ** width - 1, chance.randrange(2 ** width))) for name in "abcnp"}
            tree = random_saying_tree(chance, chance.randint(1, 3), 4, "abcnp")
            rows = [(chance.choice("abc"), random_tree(chance, chance.randint(1, 8), "abcnp")) for _ in range(chance.randint(0, 4))]
            box = Look("gate", saying_of(tree), *[(target, formula_of(row)) for target, row in rows])
            message = Message(LAYOUT, width, {name: words[name] for name in "abc"})
            news = {name: words[name] for name in "np"}
            if not truth_of(tree, width, words):
                dropped += 1
                raised(self, Dropped, lambda: box(message, news), name="gate")
                continue
            made = box(message, news)
            before = [words[name] for name in "abc"]
            for target, row in rows:
                words[target] = value_of(row, width, words)
            self.assertEqual(values_of(made), [words[name] for name in "abc"])
            self.assertEqual((made.width, made.layout, values_of(message)), (width, LAYOUT, before))
        self.assertTrue(50 < dropped < 250)


class Errors(unittest.TestCase):
    def test_in_their_order(self):
        message = Message(LAYOUT, 4, {"a": 9, "b": 8})
        formula = read("a + n + p")
        box = Look("eye", is_empty(read("k + m")), ("z", formula), ("a", named("w")), ("y", formula))
        # Targets that lack come first, also if they are given as new names.
        raised(self, NoWord, lambda: box(message, {"y": 1, "z": 1}), name="y")
        box = Look("eye", is_empty(read("k + m")), ("z", formula), ("a", named("b")))
        raised(self, NoWord, lambda: box(message, {}), name="z")
        box = Look("eye", is_empty(read("k + m")), ("b", formula), ("a", named("y")))
        news = {"y": None, "n": 16}
        for name in ("k", "m", "p"):
            raised(self, NoWord, lambda: box(message, news), name=name)
            news[name] = 1
        raised(self, BadWord, lambda: box(message, news), value=16)
        news["n"] = 15
        raised(self, BadWord, lambda: box(message, news), value=None)
        news["y"] = Word(4, 3)
        raised(self, Dropped, lambda: box(message, news), name="eye")
        news["k"] = news["m"] = 0
        self.assertEqual(values_of(box(message, news)), [3, added_values(9, 15, 1), 13])
        self.assertEqual(values_of(message), [9, 8, 13])

    def test_any_new_word(self):
        message = Message(LAYOUT, 4, {})
        box = Look("eye", no(), ("a", read("q + n")))
        for value in no_integers() + [-1, 16, 10 ** 30, Word(3, 1), Word(5, 1)]:
            raised(self, BadWord, lambda: box(message, {"n": value, "q": "x"}), value=value)
            raised(self, BadWord, lambda: box(message, {"n": 0, "q": value}), value=value)

    def test_dropped(self):
        message = Message(LAYOUT, 4, {"a": 1})
        raised(self, Dropped, lambda: Look("", no())(message, {}), name="")
        look = Look("eye", is_empty(read("a + n")))
        raised(self, Dropped, lambda: look(message, {"n": 0}), name=look.name)
        message["a"] = 0
        self.assertEqual(look(message, {"n": 0}), message)
        raised(self, Dropped, lambda: look(message, {"n": 1}), name=look.name)


def added_values(*values):
    so_far = 0
    for value in values:
        so_far = so_far + value if so_far + value < 16 else so_far + value - 15
    return so_far


class Mends(unittest.TestCase):
    def test_writes(self):
        careful, eager = "~(~c + ~m + n)", "c + m + ~n"
        for box, formula in (
            (Mend("gate", "c", "m", "n"), careful), (Mend("gate", "c", "m", "n", sort="careful"), careful),
            (Mend("gate", "c", "m", "n", sort="eager"), eager),
            (Mend(name="gate", check="c", word="m", new="n", sort="eager"), eager),
        ):
            self.assertEqual([(target, str(made)) for target, made in box.writes], [("c", formula), ("m", "n")])
            self.assertEqual((box.name, box.test, box.names), ("gate", yes(), ("c", "m", "n")))
        self.assertEqual(Mend("g", "c", "m", "n", sort="eager").writes[0][1], named("c") + named("m") + ~named("n"))

    def test_equal_names_and_names_of_the_message(self):
        for sort in ("eager", "careful"):
            for check, word, new in itertools.product("abcn", repeat=3):
                if "n" in (check, word):
                    continue
                for values in itertools.product((0, 1, 7, 15), (0, 3, 15), (0, 5, 15), (0, 4, 15)):
                    words = dict(zip("abcn", values))
                    made = Mend("gate", check, word, new, sort=sort)(Message(LAYOUT, 4, {name: words[name] for name in "abc"}), words)
                    if sort == "eager":
                        words[check] = added_values(words[check], words[word], 15 - words[new])
                    else:
                        words[check] = 15 - added_values(15 - words[check], 15 - words[word], words[new])
                    words[word] = words[new]
                    self.assertEqual(values_of(made), [words[name] for name in "abc"])

    def test_bad_names(self):
        for value in no_integers() + NO_NAMES:
            if value not in ("word",):
                raised(self, BadName, lambda: Mend("gate", value, None, 0, sort=7), name=value)
                raised(self, BadName, lambda: Mend("gate", "c", value, 0, sort=7), name=value)
                raised(self, BadName, lambda: Mend("gate", "c", "m", value, sort=7), name=value)
                raised(self, BadName, lambda: LookMend("gate", yes(), "c", value, 0, sort=7), name=value)

    def test_bad_sorts(self):
        for sort in no_integers() + [0, "Eager", "careful ", ("eager",), Word(4, 3)]:
            raised(self, BadBox, lambda: Mend("gate", "c", "m", "n", sort=sort), at=0)
            raised(self, BadBox, lambda: LookMend("gate", yes(), "c", "m", "n", sort=sort), at=0)

    def test_sort_is_passed_by_name_alone(self):
        for made in (lambda: Mend("gate", "c", "m", "n", "eager"), lambda: LookMend("gate", yes(), "c", "m", "n", "eager")):
            with self.assertRaises(TypeError):
                made()


class OtherSorts(unittest.TestCase):
    def test_look(self):
        look = Look("eye", is_empty(named("a")), ("a", named("n")), ("b", named("a")))
        self.assertEqual(values_of(look(Message(LAYOUT, 4, {}), {"n": 7})), [7, 7, 15])
        raised(self, Dropped, lambda: look(Message(LAYOUT, 4, {"a": 1}), {"n": 7}), name=look.name)

    def test_bad_sayings(self):
        for test in no_integers() + [0, "yes", named("a"), Word(4, 3)]:
            if not isinstance(test, Saying):
                raised(self, BadSaying, lambda: Look("eye", test, None), value=test)
                raised(self, BadSaying, lambda: Look("eye", test), value=test)
                raised(self, BadSaying, lambda: LookMend("eye", test, None, None, None, sort=None), value=test)

    def test_look_mend(self):
        test = is_empty(named("a"))
        for sort in ("eager", "careful"):
            both = LookMend("gate", test, "c", "b", "n", sort=sort)
            self.assertEqual((both.name, both.test, both.names), ("gate", test, ("a", "b", "c", "n")))
            self.assertEqual(both.writes, Mend("gate", "c", "b", "n", sort=sort).writes)
        self.assertEqual(LookMend("gate", test, "c", "b", "n"), both)
        made = both(Message(LAYOUT, 4, {"b": 8}), {"n": 3})
        self.assertEqual(values_of(made), [0, 3, 12])
        raised(self, Dropped, lambda: both(Message(LAYOUT, 4, {"a": 8}), {"n": 3}), name=both.name)

    def test_anew(self):
        layout = Layout(["a", "b"], [("c", "a", "b"), ("d", 3, "c")])
        for check in "cd":
            box = Anew("sum", layout, check)
            self.assertEqual((box.name, box.test, box.writes), ("sum", yes(), ((check, layout.fresh(check)),)))
            message = Message(layout, 4, {"a": 9, "b": 8, "c": 0, "d": 0})
            wanted = message.twin()
            wanted.renew(check)
            self.assertEqual(box(message, {}), wanted)
        self.assertEqual(box.names, ("c", "d"))
        for check in no_integers() + [0, "a", "e", Word(4, 3)]:
            raised(self, NoWord, lambda: Anew("sum", layout, check), name=check)

    def test_classes(self):
        kinds = (Box, Look, Mend, LookMend, Anew)
        under = {(one, other) for one, other in itertools.permutations(kinds, 2) if issubclass(one, other)}
        self.assertEqual(under, {(Look, Box), (Mend, Box), (LookMend, Look), (LookMend, Mend), (LookMend, Box), (Anew, Box)})


if __name__ == "__main__":
    unittest.main()
