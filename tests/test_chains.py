import unittest

from tests.played import all_words, anew, box_of, chain_of, mend, played, random_box
from tests.trees import chances
from tests.values import no_integers, raised
from twozeros.boxes import Anew, Box, Look, LookMend, Mend
from twozeros.chains import Chain, same_behind
from twozeros.errors import BadBox, BadWord, Dropped, NoWord, TooLarge
from twozeros.formulas import Formula, named
from twozeros.layouts import Layout
from twozeros.messages import Message
from twozeros.receivers import Receiver, Summing
from twozeros.sayings import Saying, no
from twozeros.words import Word

CHECKS = [("c", "a", "b")]
LAYOUT = Layout(["a", "b"], CHECKS)
TWICE = Box("twice", ("a", named("a") + named("a")))


def read(text):
    return Formula.read(text)


def values_of(message):
    words = message.all_words()
    return [words[name].value for name in message.layout.names]


def texts(formulas):
    return {name: str(formula) for name, formula in formulas.items()}


class Made(unittest.TestCase):
    def test_boxes(self):
        boxes = [Mend("m", "c", "a", "n"), Look("eye", no()), Box("gate")]
        for chain in (Chain(*boxes), Chain.of(boxes), Chain.of(tuple(boxes)), Chain.of(boxes=boxes)):
            self.assertIs(type(chain), Chain)
            self.assertEqual((chain.boxes, type(chain.boxes), len(chain)), (tuple(boxes), tuple, 3))
        self.assertEqual((Chain().boxes, len(Chain()), len(Chain.of([]))), ((), 0, 0))

    def test_wrong_boxes(self):
        for value in no_integers() + [0, 1, Chain(TWICE), Box, Word(4, 3)]:
            if not isinstance(value, Box):
                for at in range(3):
                    boxes = [TWICE, Mend("m", "c", "a", "n"), Look("eye", no())]
                    boxes[at] = value
                    raised(self, BadBox, lambda: Chain(*boxes), at=at)
                    raised(self, BadBox, lambda: Chain.of(boxes), at=at)
        raised(self, BadBox, lambda: Chain(TWICE, None, 3), at=1)

    def test_of_leaves_what_was_passed(self):
        boxes = [TWICE]
        chain = Chain.of(boxes)
        boxes.append(TWICE)
        self.assertEqual(len(chain), 1)

    def test_sums_and_equals(self):
        one, other = Chain(TWICE, Box("x")), Chain(Mend("m", "c", "a", "n"))
        both = one + other
        self.assertIs(type(both), Chain)
        self.assertEqual((both.boxes, len(both), len(one), len(other)), (one.boxes + other.boxes, 3, 2, 1))
        self.assertTrue(both == Chain(TWICE, Box("x"), Mend("m", "c", "a", "n")))
        self.assertTrue(one + Chain() == one == Chain() + one)
        self.assertTrue(Chain() == Chain() + Chain())
        self.assertTrue(Chain(Box("x")) == Chain(Look("x", Saying.read("yes"))))
        for unlike in (other + one, one, Chain(TWICE, Box("x"), Mend("m", "c", "a", "n", sort="eager")), Chain()):
            self.assertFalse(both == unlike)
            self.assertTrue(both != unlike)
        for value in no_integers() + [0, 1, (), one.boxes, Chain]:
            for chain in (one, other):
                self.assertIs(chain == value, False)
                self.assertIs(value == chain, False)
            self.assertIs(Chain() == value, isinstance(value, Chain) and len(value) == 0)

    def test_beside_a_word(self):
        for chain in (Chain(), Chain(TWICE)):
            raised(self, BadWord, lambda: chain + Word(4, 3), value=chain)
            raised(self, BadWord, lambda: Word(4, 3) + chain, value=chain)


class Called(unittest.TestCase):
    def test_no_box(self):
        message = Message(LAYOUT, 4, {"a": 9, "b": 8, "c": 1})
        made = Chain()(message, {})
        self.assertEqual(made, message)
        self.assertIsNot(made, message)
        made["a"] = 1
        made.bits = 5
        self.assertEqual((message.width, values_of(message)), (4, [9, 8, 1]))

    def test_random_chains(self):
        chance = chances(31)
        many_dropped = 0
        for _ in range(250):
            boxes = [random_box(chance, "abc", "abcnp") for _ in range(chance.randint(1, 4))]
            width = chance.choice((1, 2, 3, 64))
            words = {name: chance.choice((0, 2 ** width - 1, chance.randrange(2 ** width))) for name in "abcnp"}
            message = Message(LAYOUT, width, {name: words[name] for name in "abc"})
            before, news = message.twin(), {"n": words["n"], "p": words["p"]}
            chain = chain_of(boxes)
            after, stays = played(boxes, width, words)
            if stays:
                self.assertEqual(values_of(chain(message, news)), [after[name] for name in "abc"])
            else:
                many_dropped += 1
                with self.assertRaises(Dropped):
                    chain(message, news)
            self.assertEqual((message, news), (before, {"n": words["n"], "p": words["p"]}))
        self.assertTrue(30 < many_dropped < 220)

    def test_one_word_for_a_new_name_of_several_boxes(self):
        chain = Chain(Box("x", ("a", named("n"))), Box("y", ("b", read("n + a"))), Box("z", ("a", named("b"))))
        self.assertEqual(values_of(chain(Message(LAYOUT, 4, {"c": 7}), {"n": Word(4, 3)})), [6, 6, 7])
        self.assertEqual(values_of(chain(message=Message(LAYOUT, 4, {"c": 7}), news={"n": 3, "a": 15})), [6, 6, 7])

    def test_errors_box_by_box(self):
        message = Message(LAYOUT, 4, {"a": 9})
        chain = Chain(
            Look("eye", Saying.read("isempty(n)")), Box("gate", ("z", named("a"))), Box("hand", ("y", named("p"))),
        )
        raised(self, NoWord, lambda: chain(message, {}), name="n")
        raised(self, BadWord, lambda: chain(message, {"n": None}), value=None)
        raised(self, Dropped, lambda: chain(message, {"n": 1}), name="eye")
        raised(self, NoWord, lambda: chain(message, {"n": 0}), name="z")
        late = Chain(Box("x", ("a", named("b"))), Look("ear", Saying.read("isfull(a)")), Box("y", ("a", named("p"))))
        raised(self, Dropped, lambda: late(message, {}), name="ear")
        message["b"] = 15
        raised(self, NoWord, lambda: late(message, {}), name="p")
        raised(self, BadWord, lambda: late(message, {"p": 16}), value=16)
        self.assertEqual(values_of(message), [9, 15, 6])


class Formulas(unittest.TestCase):
    def test_written_forms(self):
        chain = Chain(Mend("m", "c", "a", "n", sort="eager"), Mend("m", "c", "b", "a"))
        self.assertEqual(texts(chain.formulas(LAYOUT)), {"a": "n", "b": "n", "c": "~(~(c + a + ~n) + ~b + n)"})
        self.assertEqual(texts(Chain().formulas(LAYOUT)), {"a": "a", "b": "b", "c": "c"})
        self.assertEqual(texts(Chain(TWICE, TWICE).formulas(layout=LAYOUT))["a"], "a + a + (a + a)")

    def test_the_dict_is_new(self):
        chain = Chain(TWICE)
        chain.formulas(LAYOUT)["a"] = None
        self.assertEqual(texts(chain.formulas(LAYOUT)), {"a": "a + a", "b": "b", "c": "c"})

    def test_against_leading_a_message_through(self):
        chance = chances(32)
        large = 0
        for _ in range(250):
            boxes = [random_box(chance, "abc", "abcnp", 8) for _ in range(chance.randint(1, 4))]
            chain = chain_of(boxes)
            try:
                made = chain.formulas(LAYOUT)
            except TooLarge as error:
                self.assertEqual(vars(error), {"what": "size", "most": 60})
                large += 1
                continue
            self.assertEqual(sorted(made), ["a", "b", "c"])
            for width in (1, 2, 3, 64):
                words = {name: chance.choice((0, 2 ** width - 1, chance.randrange(2 ** width))) for name in "abcnp"}
                after, _ = played(boxes, width, words)
                for name in "abc":
                    self.assertEqual(made[name].value_at(width, words), Word(width, after[name]))
        self.assertTrue(0 < large < 50)

    def test_a_drop_plays_no_part(self):
        chain = Chain(Look("eye", no(), ("a", named("n"))))
        self.assertEqual(texts(chain.formulas(LAYOUT)), {"a": "n", "b": "b", "c": "c"})

    def test_news(self):
        chain = Chain(Look("eye", Saying.read("isempty(z + a)")), Mend("m", "c", "a", "n"), Mend("m", "c", "b", "a"), Box("x", ("b", named("aa"))))
        self.assertEqual(chain.news(LAYOUT), ("aa", "n", "z"))
        self.assertEqual(chain.news(layout=Layout(["a", "b", "n"], CHECKS)), ("aa", "z"))
        self.assertEqual(Chain().news(LAYOUT), ())
        self.assertEqual(Chain(TWICE).news(LAYOUT), ())

    def test_targets_that_are_no_names_of_the_layout(self):
        chain = Chain(Box("x", ("z", named("a"))), Box("x", ("a", named("y"))), Mend("m", "d", "q", "n"), Box("x", ("e", named("e"))))
        raised(self, NoWord, lambda: chain.formulas(LAYOUT), name="d")
        raised(self, NoWord, lambda: chain.news(LAYOUT), name="d")
        raised(self, NoWord, lambda: Chain(Box("x", ("n", named("n")))).news(LAYOUT), name="n")
        large = Chain(*[TWICE] * 6, Box("x", ("z", named("a"))))
        raised(self, NoWord, lambda: large.formulas(LAYOUT), name="z")

    def test_sizes_on_the_way(self):
        self.assertEqual(Chain(*[TWICE] * 4).formulas(LAYOUT)["a"].size, 31)
        raised(self, TooLarge, lambda: Chain(*[TWICE] * 5).formulas(LAYOUT), what="size", most=60)
        back = Chain(*[TWICE] * 5, Box("x", ("a", named("b"))))
        raised(self, TooLarge, lambda: back.formulas(LAYOUT), what="size", most=60)
        self.assertEqual(back.news(LAYOUT), ())
        for many, fits in ((27, True), (28, False)):
            chain = Chain(*[TWICE] * 4, Box("x", ("b", read("a + " + "~" * many + "b"))))
            if fits:
                self.assertEqual(chain.formulas(LAYOUT)["b"].size, 60)
            else:
                raised(self, TooLarge, lambda: chain.formulas(LAYOUT), what="size", most=60)


class Arrives(unittest.TestCase):
    def test_written_forms(self):
        chain = Chain(
            Look("eye", Saying.read("isempty(a + n)")), Mend("m", "c", "a", "n", sort="eager"), Box("x"),
            LookMend("both", Saying.read("isfull(a) | no"), "c", "b", "p", sort="eager"), Look("ear", Saying.read("yes")),
        )
        self.assertEqual(
            str(chain.arrives(LAYOUT, Summing(), "c")),
            "isempty(a + n) & (isfull(n) | no) & isfull(n + p + (c + a + ~n + b + ~p))",
        )
        self.assertEqual(str(chain.arrives(layout=LAYOUT, receiver=Receiver.of("spares"), check="c")),
                         "isempty(a + n) & (isfull(n) | no) & (isempty(c + a + ~n + b + ~p) | isfull(n + p + (c + a + ~n + b + ~p)))")
        for word in Receiver.WORDS:
            receiver = Receiver.of(word)
            self.assertEqual(Chain().arrives(LAYOUT, receiver, "c"), receiver.saying(LAYOUT, "c"))
            self.assertEqual(Chain(Box("x"), Look("y", Saying.read("yes"))).arrives(LAYOUT, receiver, "c"), receiver.saying(LAYOUT, "c"))

    def test_an_integer_stays_a_number(self):
        layout = Layout(["a"], [("c", "a", 3)])
        self.assertEqual(str(Chain(Box("x", ("a", named("c")))).arrives(layout, Summing(), "c")), "isfull(c + 3 + c)")

    def test_against_playing_all_words(self):
        chance = chances(33)
        made = 0
        for _ in range(60):
            boxes = [random_box(chance, "abc", "abcn") for _ in range(chance.randint(1, 3))]
            word = chance.choice(Receiver.WORDS)
            try:
                arrives = chain_of(boxes).arrives(LAYOUT, Receiver.of(word), "c")
            except TooLarge:
                continue
            made += 1
            for width in (1, 2):
                for words in all_words("abcn", width):
                    after, stays = played(boxes, width, words)
                    behind = Message(LAYOUT, width, {name: after[name] for name in "abc"})
                    self.assertIs(arrives.holds_at(width, words), stays and Receiver.of(word)(behind, "c"))
        self.assertGreater(made, 50)

    def test_errors_in_their_order(self):
        four, five = [TWICE] * 4, [TWICE] * 5
        wide, long = Look("x", Saying.read("isempty(a + a)")), Look("y", Saying.read(" & ".join(["same(a, a)"] * 3)))
        z = Box("z", ("z", named("a")))
        for check in no_integers() + [0, "a", "e", Word(4, 3)]:
            raised(self, NoWord, lambda: Chain(*five, z, long).arrives(LAYOUT, Summing(), check), name=check)
        raised(self, NoWord, lambda: Chain(*five, long, z).arrives(LAYOUT, Summing(), "c"), name="z")
        for boxes, most in (
            (five, 60), ([*four, long, TWICE], 60), ([*four, long, wide], 60), ([*four, wide, long], 60), ([*four, long], 150),
            ([*four, wide], 60), ([*four[1:], long, long], 150), ([*four, long, Box("x", ("b", named("a")))], 60),
        ):
            raised(self, TooLarge, lambda: Chain(*boxes).arrives(LAYOUT, Summing(), "c"), what="size", most=most)
        short = Chain(*four, Look("y", Saying.read("same(a, a) & same(a, a)")), Box("x", ("a", named("b"))))
        self.assertEqual(short.arrives(LAYOUT, Summing(), "c").size, 127 + 1 + 6)

    def test_joined_at_the_size_150(self):
        look = Look("x", Saying.read("isempty(a)"))
        for many, fits in ((12, True), (13, False)):
            chain = Chain(*[TWICE] * 4, look, look, look, Look("y", Saying.read("isempty(" + "~" * many + "b)")))
            if fits:
                self.assertEqual(chain.arrives(LAYOUT, Summing(), "c").size, 150)
            else:
                raised(self, TooLarge, lambda: chain.arrives(LAYOUT, Summing(), "c"), what="size", most=150)


class SameBehind(unittest.TestCase):
    def test_written_forms(self):
        one, other = Chain(Mend("m", "c", "a", "n", sort="eager")), Chain(TWICE)
        self.assertEqual(str(same_behind(one, other, LAYOUT)), "same(n, a + a) & same(b, b) & same(c + a + ~n, c)")
        self.assertEqual(str(same_behind(one=Chain(), other=one, layout=LAYOUT)), "same(a, n) & same(b, b) & same(c, c + a + ~n)")

    def test_against_all_words(self):
        chance = chances(34)
        for _ in range(40):
            rows = [[random_box(chance, "abc", "abcn", 3) for _ in range(chance.randint(0, 2))] for _ in range(2)]
            saying = same_behind(chain_of(rows[0]), chain_of(rows[1]), LAYOUT)
            for width in (1, 2):
                for words in all_words("abcn", width):
                    found = [played(boxes, width, words)[0] for boxes in rows]
                    self.assertIs(saying.holds_at(width, words), found[0] == found[1])

    def test_errors_in_their_order(self):
        large, y, z = Chain(*[TWICE] * 5), Chain(Box("y", ("y", named("a")))), Chain(Box("z", ("z", named("a"))))
        raised(self, TooLarge, lambda: same_behind(large, z, LAYOUT), what="size", most=60)
        raised(self, NoWord, lambda: same_behind(z, large, LAYOUT), name="z")
        raised(self, NoWord, lambda: same_behind(z, y, LAYOUT), name="z")
        raised(self, NoWord, lambda: same_behind(Chain(), y, LAYOUT), name="y")
        wide = Chain(*[TWICE] * 4, Box("x", ("b", named("a")), ("c", named("a"))))
        raised(self, TooLarge, lambda: same_behind(wide, wide, LAYOUT), what="size", most=150)
        self.assertEqual(same_behind(wide, Chain(), LAYOUT).size, 3 * 33 + 2)


class Boxes(unittest.TestCase):
    """That the boxes of the tests are those of the program."""

    def test_sorts(self):
        for sort in ("eager", "careful"):
            self.assertEqual(box_of(mend(sort, "c", "a", "n")), Mend("mend", "c", "a", "n", sort=sort))
        self.assertEqual(box_of(anew(CHECKS, "c")), Anew("anew", LAYOUT, "c"))


if __name__ == "__main__":
    unittest.main()
