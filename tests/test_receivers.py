import itertools
import unittest

from tests.values import added, no_integers, raised, some_values
from twozeros.errors import BadName, NotThere, NoWord
from twozeros.formulas import full, named
from twozeros.layouts import Layout
from twozeros.messages import Message
from twozeros.receivers import Comparing, Receiver, Resting, Sparing, Summing
from twozeros.sayings import is_empty, is_full, like, same
from twozeros.words import Word

LAYOUT = Layout(["a", "b"], [("c", "a", "b"), ("d", 3, "c", "a")])
PAIR = Layout(["a", "b"], [("c", "a", "b")])
KINDS = {"sums": Summing, "rests": Resting, "compares": Comparing, "spares": Sparing}

TABLE = """
| s, c | sums | rests | compares | spares |
|---|---|---|---|---|
| EMPTY, EMPTY | no | yes | no | yes |
| EMPTY, FULL | yes | yes | yes | yes |
| FULL, EMPTY | yes | yes | yes | yes |
| FULL, FULL | yes | yes | no | yes |
"""


def takes_by_hand(word, width, s, c):
    """Whether the receiver takes a check's word c with the covered sum s."""
    most = 2 ** width - 1
    together = added(width, s, c)
    return {
        "sums": together == most, "rests": together % most == 0, "compares": c == most - s,
        "spares": c == 0 or together == most,
    }[word]


def table_rows():
    lines = [[part.strip() for part in line.strip("|").split("|")] for line in TABLE.strip().split("\n")]
    for line in lines[2:]:
        for word, answer in zip(lines[0][1:], line[1:]):
            yield word, line[0].split(", "), answer == "yes"


class Words(unittest.TestCase):
    def test_words(self):
        self.assertEqual(Receiver.WORDS, ("sums", "rests", "compares", "spares"))
        for word, kind in KINDS.items():
            self.assertEqual(kind().word, word)
            self.assertIs(type(Receiver.of(word)), kind)
            self.assertIs(type(Receiver.of(word=word)), kind)
            self.assertEqual(Receiver.of(word), kind())
            self.assertEqual(Receiver.of(word).word, word)

    def test_other_words(self):
        for word in no_integers() + [0, "Sums", "sum", "sums ", "", ("sums",), Summing(), Word(4, 3)]:
            raised(self, BadName, lambda: Receiver.of(word), name=word)

    def test_classes(self):
        for kind in KINDS.values():
            self.assertTrue(issubclass(kind, Receiver))
        under = [(one, other) for one, other in itertools.permutations(KINDS.values(), 2) if issubclass(one, other)]
        self.assertEqual(under, [(Sparing, Summing)])

    def test_equal(self):
        for (one, kind), (other, unlike) in itertools.product(KINDS.items(), repeat=2):
            self.assertIs(kind() == unlike(), one == other)
            self.assertIs(kind() != unlike(), one != other)
        for kind in KINDS.values():
            for value in no_integers() + [0, 1, kind().word, kind, Receiver]:
                if type(value) is not kind:
                    self.assertIs(kind() == value, False)
                    self.assertIs(value == kind(), False)


    def test_plain_receivers(self):
        for one, other in itertools.product(Receiver.WORDS, repeat=2):
            self.assertIs(Receiver(one) == Receiver(other), one == other)
            self.assertIs(Receiver(one) == Receiver.of(other), False)
            self.assertIs(Receiver.of(other) == Receiver(one), False)
        self.assertIs(Receiver("sums") == NotThere("sums"), False)
        for a, c in itertools.product((0, 3, 15), (0, 12, 15)):
            message = Message(LAYOUT, 4, {"a": a, "c": c})
            for word in Receiver.WORDS:
                plain, receiver = Receiver(word), Receiver.of(word)
                self.assertEqual([plain(message, check) for check in "cd"], [receiver(message, check) for check in "cd"])
                self.assertEqual(plain.saying(LAYOUT, "d"), receiver.saying(LAYOUT, "d"))
                self.assertIs(plain.takes_all(message), receiver.takes_all(message))


class Taking(unittest.TestCase):
    def test_the_table(self):
        for width in (1, 2, 4, 64):
            zeros = {"EMPTY": 0, "FULL": 2 ** width - 1}
            for word, (s, c), wanted in table_rows():
                message = Message(PAIR, width, {"a": zeros[s], "c": zeros[c]})
                self.assertEqual(message.sum_of("c"), Word(width, zeros[s]))
                self.assertIs(Receiver.of(word)(message, "c"), wanted, (width, word, s, c))

    def test_words_one_by_one(self):
        for width in (1, 2, 3):
            for a, b, c, d in itertools.product(range(2 ** width), repeat=4):
                message = Message(LAYOUT, width, {"a": a, "b": b, "c": c, "d": d})
                for word in Receiver.WORDS:
                    wanted = [takes_by_hand(word, width, message.sum_of(check).value, message[check].value) for check in "cd"]
                    receiver = Receiver.of(word)
                    self.assertEqual([receiver(message, check) for check in "cd"], wanted)
                    self.assertIs(receiver.takes_all(message), all(wanted))

    def test_far_words(self):
        for width in (31, 64):
            for a, c in itertools.product(some_values(width), repeat=2):
                for both in (c, 2 ** width - 1 - a):
                    message = Message(PAIR, width, {"a": a, "c": both})
                    for word in Receiver.WORDS:
                        wanted = takes_by_hand(word, width, a, both)
                        self.assertIs(Receiver.of(word)(message, "c"), wanted)

    def test_the_first_three_take_the_same_word_unless_the_rest_is_0(self):
        for width in (2, 3, 4):
            for s in range(1, 2 ** width - 1):
                for kind in (Summing, Resting, Comparing):
                    taken = [c for c in range(2 ** width) if kind()(Message(PAIR, width, {"b": s, "c": c}), "c")]
                    self.assertEqual(taken, [2 ** width - 1 - s])

    def test_the_example(self):
        message = Message(PAIR, 4, {"a": 9, "b": 8})
        self.assertEqual([message.sum_of("c").value, message["c"].value], [2, 13])
        self.assertEqual([kind()(message, "c") for kind in KINDS.values()], [True] * 4)
        message = Message(PAIR, 4, {"a": 9, "b": 6})
        self.assertEqual([message.sum_of("c").value, message["c"].value], [15, 0])
        message["c"] = 15
        self.assertEqual([kind()(message, "c") for kind in KINDS.values()], [True, True, False, True])

    def test_a_covered_integer_makes_the_sum_never_empty(self):
        for width in (1, 2, 3):
            for number in range(1, 16):
                layout = Layout(["a"], [("c", "a", number)])
                for a in range(2 ** width):
                    self.assertFalse(Message(layout, width, {"a": a}).sum_of("c").is_empty)

    def test_a_message_stays(self):
        message = Message(LAYOUT, 4, {"a": 9, "c": 3})
        other = message.twin()
        for kind in KINDS.values():
            kind()(message, "c")
            kind().takes_all(message=message)
        self.assertEqual(message, other)

    def test_no_check(self):
        message = Message(LAYOUT, 4, {"a": 9})
        for check in no_integers() + [0, "a", "b", "e", ("c", "a"), Word(4, 3)]:
            for kind in KINDS.values():
                raised(self, NoWord, lambda: kind()(message, check), name=check)
                raised(self, NoWord, lambda: kind().saying(LAYOUT, check), name=check)


class Sayings(unittest.TestCase):
    def test_written_forms(self):
        for kind, wanted in (
            (Summing, "isfull(3 + c + a + d)"), (Resting, "like(3 + c + a + d, full)"), (Comparing, "same(d, ~(3 + c + a))"),
            (Sparing, "isempty(d) | isfull(3 + c + a + d)"),
        ):
            self.assertEqual(str(kind().saying(LAYOUT, "d")), wanted)
            self.assertEqual(str(kind().saying(layout=LAYOUT, check="d")), wanted)

    def test_made_as_told(self):
        for check in "cd":
            s, c = LAYOUT.covered(check), named(check)
            self.assertEqual(Summing().saying(LAYOUT, check), is_full(s + c))
            self.assertEqual(Resting().saying(LAYOUT, check), like(s + c, full()))
            self.assertEqual(Comparing().saying(LAYOUT, check), same(c, ~s))
            self.assertEqual(Sparing().saying(LAYOUT, check), is_empty(c) | is_full(s + c))

    def test_they_hold_for_just_what_is_taken(self):
        for width in (1, 2, 3):
            for a, b, c, d in itertools.product(range(2 ** width), repeat=4):
                words = {"a": a, "b": b, "c": c, "d": d}
                message = Message(LAYOUT, width, words)
                for kind in KINDS.values():
                    for check in "cd":
                        saying = kind().saying(LAYOUT, check)
                        self.assertIs(saying.holds_at(width, words), kind()(message, check))


if __name__ == "__main__":
    unittest.main()
