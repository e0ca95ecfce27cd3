import itertools
import unittest

from tests.played import all_words, anew, chain_of, fates, mend, random_box, taken
from tests.trees import chances
from tests.values import no_integers, raised
from twozeros.boxes import Anew, Box, Look, LookMend, Mend
from twozeros.chains import Chain, fewest_anew, lost, lost_at, masked, summed_anew
from twozeros.counts import example
from twozeros.errors import BadBox, BadWidth, Dropped, NoWord, TooLarge
from twozeros.formulas import Formula, named
from twozeros.layouts import Layout
from twozeros.messages import Message
from twozeros.receivers import Comparing, Receiver, Resting, Summing
from twozeros.sayings import Saying
from twozeros.tables import sometimes, table
from twozeros.widthsets import Widths
from twozeros.words import Word

CHECKS = [("c", "r", "m")]
LAYOUT = Layout(["r", "m"], CHECKS)
PLAYED_CHECKS = [("c", "a", "b")]
PLAYED = Layout(["a", "b"], PLAYED_CHECKS)
GATE = Chain(Mend("gate", "c", "m", "n"))
EAGER = Chain(Mend("gate", "c", "m", "n", sort="eager"))
KINDS = [(Receiver.of(one), Receiver.of(other)) for one, other in itertools.product(Receiver.WORDS, repeat=2)]
TWICE = Box("twice", ("r", named("r") + named("r")))

# A look, mends of both sorts, a look and mend, and summing anew; the names a, b, c and n.
FIXED = [
    [mend("careful", "c", "a", "n")], [mend("eager", "c", "a", "n")], [mend("careful", "c", "a", "b")],
    [mend("eager", "c", "a", "n"), mend("careful", "c", "b", "n")], [("eye", ("isempty", "n"), [])],
    [("eye", ("~", ("like", "a", 0)), []), mend("eager", "c", "a", "n")], [],
    [("both", ("~", ("isempty", "b")), mend("careful", "c", "b", "n")[2])],
    [mend("careful", "c", "a", "n"), anew(PLAYED_CHECKS, "c")], [anew(PLAYED_CHECKS, "c"), mend("careful", "c", "a", "n")],
    [("hand", None, [("c", "full")])], [("hand", None, [("a", ("+", "a", "b")), ("b", 0)])],
    [("hand", None, [("a", ("*", 3, "a")), ("b", ("*", 3, "b")), ("c", ("*", 3, "c"))])],
    [("eye", ("isfull", ("+", ("*", 3, "a"), "n")), [])], [("eye", ("like", "n", 5), [("a", "n")])],
]


def right(words, receiver, layout=LAYOUT):
    """Whether the receiver takes these words, a dict of integers, at this width."""
    width, values = words
    return receiver(Message(layout, width, {name: values[name] for name in layout.names}), "c")


def arrives(chain, words, receiver, layout=LAYOUT):
    width, values = words
    message = Message(layout, width, {name: values[name] for name in layout.names})
    try:
        return receiver(chain(message, values), "c")
    except Dropped:
        return False


class LostAndMasked(unittest.TestCase):
    def played(self, boxes, before, behind, widths):
        chain = chain_of(boxes)
        away = lost(chain, PLAYED, before, behind, "c")
        hidden = masked(chain, PLAYED, before, behind, "c")
        self.assertEqual([type(away), type(hidden)], [Widths, Widths])
        for width in widths:
            many = fates(boxes, "abcn", PLAYED_CHECKS, "c", (before.word, behind.word), width)
            self.assertEqual((width in away, width in hidden), (many[0] > 0, many[1] > 0), (boxes, before.word, behind.word))

    def test_fixed_chains_with_each_receiver(self):
        for boxes in FIXED:
            for before, behind in KINDS:
                self.played(boxes, before, behind, (1, 2))

    def test_fixed_chains_at_the_width_3(self):
        for boxes in FIXED[:8]:
            for before, behind in KINDS[::5]:
                self.played(boxes, before, behind, (3,))

    def test_random_chains(self):
        chance = chances(41)
        made = 0
        for _ in range(60):
            boxes = [random_box(chance, "abc", "abcn", 3) for _ in range(chance.randint(1, 3))]
            try:
                self.played(boxes, *chance.choice(KINDS), (1, 2))
                made += 1
            except TooLarge:
                continue
        self.assertGreater(made, 30)

    def test_told_by_the_sayings(self):
        for chain in (GATE, EAGER, Chain(), Chain(Look("eye", Saying.read("isempty(n)")))):
            for before, behind in KINDS:
                b, a = before.saying(LAYOUT, "c"), chain.arrives(LAYOUT, behind, "c")
                self.assertEqual(lost(chain, LAYOUT, before, behind, "c"), sometimes(b & ~a))
                self.assertEqual(masked(chain, LAYOUT, before, behind, "c"), sometimes(~b & a))
                self.assertEqual(lost(chain=chain, layout=LAYOUT, before=before, behind=behind, check="c"), sometimes(b & ~a))
                self.assertEqual(masked(chain=chain, layout=LAYOUT, before=before, behind=behind, check="c"), sometimes(~b & a))

    def test_the_example(self):
        summing = Summing()
        self.assertEqual(lost(GATE, LAYOUT, summing, summing, "c"), Widths.every())
        self.assertEqual(masked(GATE, LAYOUT, summing, summing, "c"), Widths.every())
        self.assertEqual(lost(EAGER, LAYOUT, summing, summing, "c"), Widths.none())
        # The right messages that are lost are M + 1 choices at every width.
        away = summing.saying(LAYOUT, "c") & ~GATE.arrives(LAYOUT, summing, "c")
        self.assertEqual(table(away).classes(), [(1, (1, 1))])
        self.assertEqual(table(away).start, 1)
        total = Formula.read("r + n + ~(~c + ~m + n)")
        self.assertEqual(str(GATE.arrives(LAYOUT, summing, "c")), f"isfull({total})")
        for width in (1, 2, 3, 4):
            most = 2 ** width - 1
            lost_words = [words for words in all_words("rmcn", width) if right((width, words), summing)
                          and not arrives(GATE, (width, words), summing)]
            self.assertEqual(len(lost_words), most + 1)
            self.assertIn({"r": 0, "m": 0, "c": most, "n": 0}, lost_words)
            self.assertTrue(all(words["r"] == words["n"] == 0 for words in lost_words))
            made = GATE(Message(LAYOUT, width, {"r": 0, "m": 0, "c": most}), {"n": 0})
            self.assertTrue(made["c"].is_empty)
            self.assertFalse(summing(made, "c"))
            hidden = width, {"r": 0, "m": 0, "c": 0, "n": 1}
            self.assertEqual((right(hidden, summing), arrives(GATE, hidden, summing)), (False, True))
            self.assertEqual(GATE(Message(LAYOUT, width, {"c": 0}), {"n": 1})["c"].value, (most - 1) if width > 1 else most - 1)

    def test_the_eager_check_is_empty_only_if_the_new_word_is_full(self):
        for width in (1, 2, 3):
            for words in all_words("rmcn", width):
                if EAGER(Message(LAYOUT, width, {name: words[name] for name in "rmc"}), words)["c"].is_empty:
                    self.assertEqual(words["n"], 2 ** width - 1)

    def test_all_widths_but_some(self):
        # 3 * n is FULL for other words than FULL exactly at the even widths.
        look = Chain(Look("eye", Saying.read("~isfull(3 * n) | isfull(n)")))
        self.assertEqual(lost(look, LAYOUT, Summing(), Summing(), "c"), Widths.multiples(2))
        five = Chain(Look("eye", Saying.read("~like(5, 0)")))
        self.assertEqual(lost(five, LAYOUT, Summing(), Summing(), "c"), Widths.of(1))


class LostAt(unittest.TestCase):
    def test_right_messages_that_do_not_arrive(self):
        for boxes in FIXED:
            chain = chain_of(boxes)
            for before, behind in KINDS[::3]:
                away = lost(chain, PLAYED, before, behind, "c")
                for width in (1, 2, 3, 4, 5, 6, 12, 31, 63, 64):
                    found = lost_at(chain, PLAYED, before, behind, "c", width)
                    self.assertIs(found is None, width not in away)
                    if found is None:
                        continue
                    self.assertTrue(all(type(value) is int for value in found.values()))
                    words = width, {**dict.fromkeys("abcn", 0), **found}
                    self.assertTrue(right(words, before, PLAYED))
                    self.assertFalse(arrives(chain, words, behind, PLAYED))
                    self.assertEqual(lost_at(chain, PLAYED, before, behind, "c", width), found)

    def test_by_hand_at_far_widths(self):
        for width in (65, 100, 5040):
            found = lost_at(GATE, LAYOUT, Summing(), Summing(), "c", width)
            self.assertEqual(sorted(found), ["c", "m", "n", "r"])
            most = 2 ** width - 1
            self.assertTrue(taken("sums", CHECKS, "c", width, found))
            self.assertEqual((found["r"], found["n"], (found["c"] + found["m"]) % most), (0, 0, 0))
            self.assertIs(lost_at(EAGER, LAYOUT, Summing(), Summing(), "c", width), None)

    def test_an_example_of_the_saying(self):
        for chain in (GATE, EAGER, Chain(Look("eye", Saying.read("no")))):
            for before, behind in KINDS:
                away = before.saying(LAYOUT, "c") & ~chain.arrives(LAYOUT, behind, "c")
                for width in (1, 2, 7, 64):
                    found = lost_at(chain=chain, layout=LAYOUT, before=before, behind=behind, check="c", width=width)
                    self.assertEqual(found, example(away, width))

    def test_widths(self):
        for width in no_integers() + [0, -1, 5041, 10 ** 30, Word(4, 4)]:
            raised(self, BadWidth, lambda: lost_at(GATE, LAYOUT, Summing(), Summing(), "c", width), width=width)


class Errors(unittest.TestCase):
    def each(self, error, chain, layout=LAYOUT, check="c", **attributes):
        raised(self, error, lambda: lost(chain, layout, Summing(), Resting(), check), **attributes)
        raised(self, error, lambda: masked(chain, layout, Summing(), Resting(), check), **attributes)
        raised(self, error, lambda: lost_at(chain, layout, Summing(), Resting(), check, None), **attributes)
        if len(chain) <= 4:
            raised(self, error, lambda: fewest_anew(chain, layout, Summing(), Resting(), check), **attributes)

    def test_in_their_order(self):
        long = Look("y", Saying.read(" & ".join(["same(r, r)"] * 3)))
        wide, z = Look("x", Saying.read("isempty(r + r)")), Box("z", ("z", named("a")))
        large = Box("x", ("r", Formula.read("~" * 59 + "r")), ("r", Formula.read("~r")))
        for check in no_integers() + [0, "r", "m", "e", Word(4, 3)]:
            self.each(NoWord, Chain(large, long, z), check=check, name=check)
        self.each(NoWord, Chain(large, long, z), name="z")
        self.each(TooLarge, Chain(large, long), what="size", most=60)
        four = [TWICE] * 4
        self.each(TooLarge, Chain(*four, long, wide), what="size", most=60)
        self.each(TooLarge, Chain(*four, long), what="size", most=150)
        self.each(TooLarge, Chain(*four[:3], Look("x", Saying.read("isempty(r)")), *four[:2]), what="size", most=60)

    def test_size_of_both_together(self):
        # is_full(r + m + c) & ~(..) has 8 parts more than what arrives.
        look = Look("x", Saying.read("isempty(r)"))
        for many, fits in ((4, True), (5, False)):
            chain = Chain(*[TWICE] * 4, look, look, look, Look("y", Saying.read("isempty(" + "~" * many + "m)")))
            arriving = chain.arrives(LAYOUT, Summing(), "c")
            self.assertEqual(arriving.size, 138 + many)
            for ask in (lost, masked):
                if fits:
                    self.assertEqual(type(ask(chain, LAYOUT, Summing(), Summing(), "c")), Widths)
                else:
                    raised(self, TooLarge, lambda: ask(chain, LAYOUT, Summing(), Summing(), "c"), what="size", most=150)

    def test_as_sometimes(self):
        many = Chain(*[Look("x", Saying.read(f"isempty({name})")) for name in "ijkl"])
        self.each(TooLarge, many, what="names", most=6)
        odd = [f"isfull({k} * n)" for k in (1, 3, 5, 7, 9)] + [f"isfull(9 * n + {k} * n)" for k in (2, 4, 6)]
        self.each(TooLarge, Chain(Look("x", Saying.read(" & ".join(odd)))), what="forms", most=8)
        self.assertEqual(lost(Chain(Look("x", Saying.read(" & ".join(odd[1:])))), LAYOUT, Summing(), Resting(), "c"), Widths.every())
        self.each(TooLarge, Chain(Look("x", Saying.read("isfull(r + (n << 10))"))), what="number", most=1000)
        order = Chain(Look("x", Saying.read("~isfull(9 * (9 * r) + 9 * (2 * r) + r + r) & ~isfull(9 * (9 * n) + 9 * (2 * n) + 4 * n)")))
        for ask in (lost, lambda *told: lost_at(*told, None), fewest_anew):
            raised(self, TooLarge, lambda: ask(order, LAYOUT, Summing(), Resting(), "c"), what="length", most=5040)


class SummedAnew(unittest.TestCase):
    BOXES = [Mend("one", "c", "m", "n"), Look("two", Saying.read("isempty(n)")), LookMend("three", Saying.read("yes"), "c", "r", "p")]

    def test_each_set_of_places(self):
        chain = Chain.of(self.BOXES)
        for many in range(4):
            for places in itertools.combinations(range(3), many):
                made = summed_anew(chain, LAYOUT, "c", places)
                wanted = []
                for at, box in enumerate(self.BOXES):
                    wanted += [box, Anew(box.name, LAYOUT, "c")] if at in places else [box]
                self.assertEqual(made, Chain.of(wanted))
                self.assertEqual([box.name for box in made.boxes], [box.name for box in wanted])
        self.assertEqual(type(made.boxes[1]), Anew)
        self.assertEqual(summed_anew(chain=Chain(), layout=LAYOUT, check="c", places=()), Chain())
        self.assertEqual(len(chain), 3)

    def test_wrong_places(self):
        chain = Chain.of(self.BOXES)
        for place in no_integers() + [-1, 3, 10 ** 30, Word(4, 1)]:
            for places, at in (((place,), 0), ((0, place), 1), ((0, 1, place, None), 2), ((0, 2, place), 2), ((place, 0), 0)):
                raised(self, BadBox, lambda: summed_anew(chain, LAYOUT, "c", places), at=at)
        for places, at in (((1, 1), 1), ((1, 0), 1), ((0, 2, 1), 2), ((0, 1, 2, 2), 3), ((0, 0, None), 1), ((2, 3), 1)):
            raised(self, BadBox, lambda: summed_anew(chain, LAYOUT, "c", places), at=at)
        raised(self, BadBox, lambda: summed_anew(Chain(), LAYOUT, "c", (0,)), at=0)

    def test_no_check(self):
        for check in no_integers() + [0, "r", "e", Word(4, 3)]:
            raised(self, NoWord, lambda: summed_anew(GATE, LAYOUT, check, (7,)), name=check)
            raised(self, NoWord, lambda: summed_anew(Chain(), LAYOUT, check, ()), name=check)


class FewestAnew(unittest.TestCase):
    def by_hand(self, chain, before, behind, layout=LAYOUT):
        """The answer, with None in the places of words."""
        rows = []
        for many in range(len(chain) + 1):
            for places in itertools.combinations(range(len(chain)), many):
                away = lost(summed_anew(chain, layout, "c", places), layout, before, behind, "c")
                if away == Widths.none():
                    return places, rows
                rows.append((places, away.first(1)[0], None))
        return None, rows

    def check(self, chain, before, behind, layout=LAYOUT):
        found = fewest_anew(chain, layout, before, behind, "c")
        self.assertEqual([type(found), type(found[1])], [tuple, list])
        places, rows = self.by_hand(chain, before, behind, layout)
        self.assertEqual((found[0], [(row[0], row[1], None) for row in found[1]]), (places, rows))
        for places, width, words in found[1]:
            if width > 64:
                self.assertIs(words, None)
                continue
            changed = summed_anew(chain, layout, "c", places)
            values = width, {**dict.fromkeys(changed.news(layout) + layout.names, 0), **words}
            self.assertTrue(right(values, before, layout))
            self.assertFalse(arrives(changed, values, behind, layout))
            self.assertEqual(words, lost_at(changed, layout, before, behind, "c", width))
        self.assertEqual(fewest_anew(chain, layout, before, behind, "c"), found)
        return found

    def test_chains(self):
        two = Chain(Mend("x", "c", "m", "n"), Mend("y", "c", "r", "n"))
        self.assertEqual(self.check(GATE, Resting(), Resting())[0], ())
        self.assertEqual(self.check(EAGER, Summing(), Summing()), ((), []))
        self.assertEqual(self.check(GATE, Summing(), Summing())[0], (0,))
        for before, behind in KINDS:
            self.check(two, before, behind)
            self.check(GATE, before, behind)
            self.check(Chain(), before, behind)

    def test_no_chain_helps(self):
        eye = Chain(Look("eye", Saying.read("isempty(m)")), Mend("x", "c", "m", "n", sort="eager"))
        places, rows = self.check(eye, Summing(), Summing())
        self.assertIs(places, None)
        self.assertEqual([row[:2] for row in rows], [((), 1), ((0,), 1), ((1,), 1), ((0, 1), 1)])

    def test_no_box(self):
        places, rows = self.check(Chain(), Resting(), Comparing())
        self.assertEqual((places, [row[:2] for row in rows]), (None, [((), 1)]))
        self.assertEqual(fewest_anew(Chain(), LAYOUT, Summing(), Summing(), "c"), ((), []))

    def test_four_boxes_and_five(self):
        layout = Layout(["r"], [("c", "r")])
        boxes = [Box("w", ("c", Formula.read("c + 1"))), Box("x"), Box("y", ("c", Formula.read("~c"))), Box("z", ("r", named("r") + 1))]
        for order in itertools.permutations(boxes):
            places, rows = self.check(Chain.of(order), Summing(), Comparing(), layout)
            self.assertEqual(places, self.by_hand(Chain.of(order), Summing(), Comparing(), layout)[0])
        self.assertEqual(self.check(Chain(boxes[0], boxes[3], boxes[2], boxes[1]), Summing(), Comparing(), layout)[0], (2,))
        five = Chain(*boxes, Box("z", ("z", named("r"))))
        for check in ("c", None):
            raised(self, TooLarge, lambda: fewest_anew(five, layout, Summing(), Summing(), check), what="boxes", most=4)

    def test_several_places(self):
        # The first box looks at the check, the second one spoils it, and the third one looks again.
        layout = Layout(["r"], [("c", "r")])
        look = Look("eye", Saying.read("same(c, ~r)"))
        spoil = Box("hand", ("c", Formula.read("c + r")))
        chain = Chain(spoil, look, spoil, look)
        places, rows = self.check(chain, Comparing(), Comparing(), layout)
        self.assertEqual(places, (0, 2))
        self.assertEqual([row[0] for row in rows], [(), (0,), (1,), (2,), (3,), (0, 1)])

    def test_far_widths(self):
        # 641 divides 2 ** w - 1 exactly if 64 divides w, 67 if 66 does, 101 if 100 does.
        layout = Layout(["r"], [("c", "r")])
        for many, turns, least in ((641, (9, 7, 0), 64), (67, (6, 1, 0), 66), (101, (6, 5, 2, 0), 100)):
            self.assertEqual(Widths.dividing(many).first(1), [least])
            sum_of_turns = " + ".join([f"(n << {turn})" for turn in turns])
            chain = Chain(Look("eye", Saying.read(f"~isfull({sum_of_turns}) | isfull(n)")))
            places, rows = self.check(chain, Summing(), Summing(), layout)
            self.assertEqual((places, [row[:2] for row in rows]), (None, [((), least), ((0,), least)]))
            self.assertEqual([words is None for _, _, words in rows], [least > 64] * 2)

    def test_errors_set_by_set(self):
        # Without places all is told; with the first one a formula is too large on the way.
        layout = Layout(["a", "b", "d", "e", "f"], [("c", "a", "b", "d", "e", "f")])
        large = Box("x", ("a", Formula.read("~" * 48 + "a")))
        eye = Look("eye", Saying.read("no"))
        self.assertEqual(type(lost(Chain(large, eye), layout, Summing(), Summing(), "c")), Widths)
        raised(self, TooLarge, lambda: fewest_anew(Chain(large, eye), layout, Summing(), Summing(), "c"), what="size", most=60)


if __name__ == "__main__":
    unittest.main()
