import itertools
import unittest

from tests.trees import chances
from tests.values import WIDTHS, added, added_times, no_integers, raised, some_values
from twozeros.errors import BadWidth, BadWord, NoWord, ZerosError
from twozeros.layouts import Layout
from twozeros.messages import Message, edited
from twozeros.words import Word

LAYOUT = Layout(["a", "b"], [("c", "a", "b"), ("d", 3, "c", "a")])
ROWS = {"c": ("a", "b"), "d": (3, "c", "a")}


def values_of(message):
    """The values in the order of the names, as all_words tells them."""
    words = message.all_words()
    return [words[name].value for name in message.layout.names]


def sum_by_hand(width, words, check):
    """The covered sum, added step by step."""
    so_far = 0
    for member in ROWS[check]:
        so_far = added(width, so_far, words[member] if member in words else added_times(width, member, 1))
    return so_far


def filled_by_hand(width, given):
    words = {name: given.get(name, 0) for name in ("a", "b")}
    for check in ("c", "d"):
        words[check] = given[check] if check in given else 2 ** width - 1 - sum_by_hand(width, words, check)
    return [words[name] for name in "abcd"]


class Made(unittest.TestCase):
    def test_what_lacks(self):
        for width in WIDTHS:
            for a, b in itertools.product(some_values(width), repeat=2):
                for given in ({"a": a, "b": b}, {"a": a}, {"b": b}, {}, {"c": a}, {"d": b}, {"d": b, "a": a, "c": 0}):
                    message = Message(LAYOUT, width, given)
                    self.assertEqual(values_of(message), filled_by_hand(width, given))

    def test_a_check_is_filled_by_the_checks_as_they_are(self):
        self.assertEqual(values_of(Message(LAYOUT, 4, {"a": 9, "c": 1})), [9, 0, 1, 2])
        self.assertEqual(values_of(Message(LAYOUT, 4, {"a": 9, "b": 8})), [9, 8, 13, 5])

    def test_keys_in_any_order(self):
        given = {"a": 9, "b": 8, "c": 7, "d": 6}
        for names in itertools.permutations(given):
            self.assertEqual(values_of(Message(LAYOUT, 4, {name: given[name] for name in names})), [9, 8, 7, 6])

    def test_integers_and_words(self):
        for width in WIDTHS:
            most = 2 ** width - 1
            for value in (0, most, most // 2, 1):
                for given in (value, Word(width, value)):
                    message = Message(LAYOUT, width, {"b": given, "d": given})
                    self.assertEqual([message["b"], message["d"]], [Word(width, value)] * 2)

    def test_what_was_passed_stays(self):
        given = {"a": Word(4, 3), "c": 5}
        message = Message(layout=LAYOUT, width=4, values=given)
        message["a"] = 9
        message.renew()
        self.assertEqual(given, {"a": Word(4, 3), "c": 5})
        given["a"] = 1
        self.assertEqual(message["a"], Word(4, 9))

    def test_attributes(self):
        message = Message(LAYOUT, 7, {})
        self.assertIs(message.layout, LAYOUT)
        self.assertEqual([message.width, message.bits, len(message)], [7, 7, 4])
        self.assertEqual(len(Message(Layout(["a"], [("c", "a")]), 3, {})), 2)


class WrongValues(unittest.TestCase):
    def wrong(self, error, bits, values, **attributes):
        raised(self, error, lambda: Message(LAYOUT, bits, values), **attributes)

    def test_width(self):
        for width in no_integers() + [0, -1, 65, 10 ** 30, Word(4, 4)]:
            self.wrong(BadWidth, width, {"x": None, "a": None}, width=width)
            self.wrong(BadWidth, width, {}, width=width)

    def test_names(self):
        self.wrong(NoWord, 4, {"x": 1}, name="x")
        self.wrong(NoWord, 4, {"z": 1, "e": None, "f": 1, "a": None}, name="e")
        self.wrong(NoWord, 4, {"aa": 1, "A": 1, "a": 16}, name="A")
        self.wrong(NoWord, 4, {"": 1, "x": 1}, name="")

    def test_words(self):
        for value in no_integers() + [-1, 16, 10 ** 30, Word(3, 1), Word(5, 1)]:
            for name in "abcd":
                self.wrong(BadWord, 4, {name: value}, value=value)
            self.wrong(BadWord, 4, {"d": None, "c": 16, "b": value, "a": 3}, value=value)
            self.wrong(BadWord, 4, {"d": value, "a": Word(4, 15), "b": 15, "c": 0}, value=value)
        for width in WIDTHS:
            self.wrong(BadWord, width, {"b": 2 ** width}, value=2 ** width)
            self.wrong(BadWord, width, {"d": -2, "c": -1}, value=-1)


class Keys(unittest.TestCase):
    def test_words_of_names(self):
        message = Message(LAYOUT, 4, {"a": 9, "b": 8})
        self.assertEqual([message[name] for name in "abcd"], [Word(4, value) for value in (9, 8, 13, 5)])
        self.assertEqual(message.all_words(), {name: message[name] for name in "abcd"})

    def test_setting_sets_one_word_alone(self):
        message = Message(LAYOUT, 4, {"a": 9, "b": 8})
        message["a"] = 0
        self.assertEqual(values_of(message), [0, 8, 13, 5])
        message["d"] = Word(4, 15)
        self.assertEqual(values_of(message), [0, 8, 13, 15])
        message["c"] = 15
        self.assertEqual(values_of(message), [0, 8, 15, 15])

    def test_no_name(self):
        message = Message(LAYOUT, 4, {"a": 9})
        for key in no_integers() + [0, 1, "e", "A", "ab", ("a",), Word(4, 3)]:
            raised(self, NoWord, lambda: message[key], name=key)
            with self.assertRaises(NoWord) as caught:
                message[key] = None
            self.assertIs(caught.exception.name, key)
            self.assertIs(key in message, False)
        self.assertEqual([name in message for name in ("a", "b", "c", "d", "e")], [True] * 4 + [False])

    def test_no_word(self):
        message = Message(LAYOUT, 4, {"a": 9})
        before = values_of(message)
        for value in no_integers() + [-1, 16, 10 ** 30, Word(3, 1), Word(5, 1)]:
            for name in "abcd":
                with self.assertRaises(BadWord) as caught:
                    message[name] = value
                self.assertIs(caught.exception.value, value)
        self.assertEqual(values_of(message), before)

    def test_all_words_is_new(self):
        message = Message(LAYOUT, 4, {"a": 9})
        found = message.all_words()
        found["a"] = Word(4, 1)
        del found["b"]
        found["x"] = Word(4, 1)
        self.assertEqual(values_of(message), [9, 0, 6, 12])
        self.assertIsNot(message.all_words(), message.all_words())


class Widths(unittest.TestCase):
    def changed(self, message, width):
        """Both ways to change the width, of the message and of a twin."""
        other = message.twin()
        other.bits = width
        self.assertIs(message.set_bits(width), None)
        self.assertEqual(message, other)

    def test_values_stay(self):
        message = Message(LAYOUT, 4, {"a": 15, "b": 8, "c": 0, "d": 1})
        for width in (64, 4, 5, 4):
            self.changed(message, width)
            self.assertEqual((message.width, message.bits, values_of(message)), (width, width, [15, 8, 0, 1]))
            self.assertEqual(message["a"], Word(width, 15))
        message["a"] = 7
        message["b"] = 7
        self.changed(message, 3)
        self.assertEqual(message["b"], Word.full(3))
        message["b"] = 8 - 1
        raised(self, BadWord, lambda: message.set_bits(2), value=7)

    def test_no_width(self):
        message = Message(LAYOUT, 4, {"a": 15})
        for width in no_integers() + [0, -1, 65, 10 ** 30, Word(4, 4)]:
            raised(self, BadWidth, lambda: message.set_bits(width), width=width)
            with self.assertRaises(BadWidth) as caught:
                message.bits = width
            self.assertIs(caught.exception.width, width)
        self.assertEqual((message.width, values_of(message)), (4, [15, 0, 0, 12]))

    def test_values_that_do_not_fit(self):
        for values, width, wrong in (
            ((1, 8, 9, 15), 3, 8), ((1, 1, 15, 8), 3, 15), ((0, 0, 0, 8), 3, 8), ((15, 14, 13, 12), 1, 15),
            ((1, 2, 3, 1), 1, 2), ((3, 4, 3, 1), 2, 4),
        ):
            message = Message(LAYOUT, 4, dict(zip("dcba", values[::-1])))
            raised(self, BadWord, lambda: message.set_bits(width), value=wrong)
            with self.assertRaises(BadWord) as caught:
                message.bits = width
            self.assertEqual(vars(caught.exception), {"value": wrong})
            self.assertEqual((message.width, message.bits, values_of(message)), (4, 4, list(values)))


class Checks(unittest.TestCase):
    def test_renew_and_sum_of(self):
        chance = chances(3)
        for _ in range(200):
            width = chance.choice(WIDTHS)
            words = {name: chance.choice(some_values(width)) for name in "abcd"}
            message = Message(LAYOUT, width, words)
            for check in "cd":
                self.assertEqual(message.sum_of(check), Word(width, sum_by_hand(width, words, check)))
            for check in chance.choice(["c", "d", "cd", "dc", "cc"]):
                self.assertIs(message.renew(check), None)
                words[check] = 2 ** width - 1 - sum_by_hand(width, words, check)
                self.assertEqual(values_of(message), list(words.values()))
            self.assertIs(message.renew(), None)
            wanted = filled_by_hand(width, {"a": words["a"], "b": words["b"]})
            self.assertEqual(values_of(message), wanted)
            message.renew(None)
            self.assertEqual(values_of(message), wanted)

    def test_the_complement_of_full_is_empty(self):
        message = Message(LAYOUT, 4, {"a": 9, "b": 6, "c": 15})
        self.assertEqual(message.sum_of("c"), Word.full(4))
        message.renew(check="c")
        self.assertEqual(message["c"], Word.empty(4))

    def test_no_check(self):
        message = Message(LAYOUT, 4, {"a": 9})
        before = values_of(message)
        for check in no_integers() + [0, "a", "b", "e", ("c", "a"), Word(4, 3)]:
            raised(self, NoWord, lambda: message.sum_of(check), name=check)
            if check is not None:
                raised(self, NoWord, lambda: message.renew(check), name=check)
        self.assertEqual(values_of(message), before)


class Blocks(unittest.TestCase):
    def change(self, message):
        message["a"] = 1
        message.renew("d")
        message.bits = 9
        message["b"] = 511

    def test_an_error_puts_the_message_back(self):
        for error in (BadWord, KeyError, KeyboardInterrupt):
            message = Message(LAYOUT, 4, {"a": 9, "b": 8})
            with self.assertRaises(error):
                with message.editing():
                    self.change(message)
                    raise error("stop")
            self.assertEqual((message.width, values_of(message)), (4, [9, 8, 13, 5]))

    def test_errors_of_the_message_itself(self):
        message = Message(LAYOUT, 4, {"a": 9, "b": 8})
        with self.assertRaises(BadWord) as caught:
            with message.editing():
                message["a"] = 3
                message["b"] = 16
        self.assertEqual(caught.exception.value, 16)
        self.assertEqual(values_of(message), [9, 8, 13, 5])

    def test_without_an_error_all_stays(self):
        message = Message(LAYOUT, 4, {"a": 9, "b": 8})
        with message.editing():
            self.change(message)
        # The sum of 3, 13 and 1 was taken at the width 4.
        self.assertEqual((message.width, values_of(message)), (9, [1, 511, 13, 13]))
        message["a"] = 2
        self.assertEqual(message["a"], Word(9, 2))

    def test_one_block_in_another(self):
        message = Message(LAYOUT, 4, {"a": 9, "b": 8})
        with message.editing():
            message["a"] = 1
            with self.assertRaises(ZerosError):
                with message.editing():
                    message["a"] = 2
                    message.bits = 5
                    with message.editing():
                        message["a"] = 31
                    raise BadWord(None)
            self.assertEqual((message.width, values_of(message)), (4, [1, 8, 13, 5]))
            message["b"] = 3
        self.assertEqual(values_of(message), [1, 3, 13, 5])

    def test_an_error_that_leaves_both_blocks(self):
        message = Message(LAYOUT, 4, {"a": 9, "b": 8})
        with self.assertRaises(BadWord):
            with message.editing():
                message["a"] = 1
                with message.editing():
                    message["b"] = 2
                    message.bits = 8
                message["c"] = 255
                message["d"] = 256
        self.assertEqual((message.width, values_of(message)), (4, [9, 8, 13, 5]))

    def test_blocks_one_after_another(self):
        message = Message(LAYOUT, 4, {"a": 9, "b": 8})
        with message.editing():
            message["a"] = 1
        with self.assertRaises(BadWord):
            with message.editing():
                message["a"] = 2
                raise BadWord(3)
        self.assertEqual(values_of(message), [1, 8, 13, 5])

    def test_a_block_begins_where_it_is_entered(self):
        message = Message(LAYOUT, 4, {"a": 9, "b": 8})
        block = message.editing()
        message["a"] = 4
        with self.assertRaises(BadWord):
            with block:
                message["a"] = 5
                raise BadWord(3)
        self.assertEqual(values_of(message), [4, 8, 13, 5])

    def test_tried(self):
        message = Message(LAYOUT, 4, {"a": 9, "b": 8})

        def ask():
            self.change(message)
            return "answer"

        def fail():
            message["a"] = 3
            message.tried(ask)
            message.bits = 20
            return message["x"]

        self.assertEqual(message.tried(ask), "answer")
        after = message.twin()
        self.assertEqual((message.width, message["a"]), (9, Word(9, 1)))
        raised(self, NoWord, lambda: message.tried(fail), name="x")
        self.assertEqual(message, after)
        self.assertIs(message.tried(ask=lambda: None), None)


class Edited(unittest.TestCase):
    def test_all_rows(self):
        message = Message(LAYOUT, 4, {"a": 9, "b": 8})
        self.assertIs(edited(message, [("a", 1), ("d", Word(4, 2)), ("a", 3)]), None)
        self.assertEqual(values_of(message), [3, 8, 13, 2])
        self.assertIs(edited(message=message, rows=[]), None)
        self.assertEqual(values_of(message), [3, 8, 13, 2])

    def test_a_wrong_row_in_the_midst(self):
        for value in no_integers() + [-1, 16, Word(5, 1)]:
            message = Message(LAYOUT, 4, {"a": 9, "b": 8})
            raised(self, BadWord, lambda: edited(message, [("a", 1), ("d", value), ("x", 3)]), value=value)
            self.assertEqual(values_of(message), [9, 8, 13, 5])
        for name in no_integers() + ["x", 0]:
            message = Message(LAYOUT, 4, {"a": 9, "b": 8})
            raised(self, NoWord, lambda: edited(message, [("a", 1), (name, 16), ("b", 16)]), name=name)
            self.assertEqual(values_of(message), [9, 8, 13, 5])


class TwinsAndEquals(unittest.TestCase):
    def test_twin(self):
        message = Message(LAYOUT, 4, {"a": 9, "c": 1})
        other = message.twin()
        self.assertEqual((other.layout, other.width, values_of(other)), (LAYOUT, 4, [9, 0, 1, 2]))
        other["a"] = 3
        self.assertEqual(values_of(message), [9, 0, 1, 2])
        message["b"] = 5
        message.bits = 6
        self.assertEqual((other.width, values_of(other)), (4, [3, 0, 1, 2]))

    def test_equal(self):
        message = Message(LAYOUT, 4, {"a": 9, "b": 8})
        same_layout = Layout(("a", "b"), [("c", "a", "b"), ("d", 3, "c", "a")])
        self.assertTrue(message == Message(same_layout, 4, {"a": Word(4, 9), "b": 8, "c": 13}))
        other = message.twin()
        other.bits = 5
        for unlike in (
            other, Message(LAYOUT, 4, {"a": 9, "b": 8, "d": 4}), Message(LAYOUT, 4, {"a": 9, "b": 7}),
            Message(Layout(["a", "b"], [("c", "b", "a"), ("d", 3, "c", "a")]), 4, {"a": 9, "b": 8}),
            Message(Layout(["b", "a"], [("c", "a", "b"), ("d", 3, "c", "a")]), 4, {"a": 9, "b": 8}),
        ):
            self.assertFalse(message == unlike)
            self.assertTrue(message != unlike)

    def test_other_values(self):
        message = Message(LAYOUT, 4, {"a": 1})
        for value in no_integers() + [0, 1, message.all_words(), {"a": 1}, LAYOUT]:
            self.assertIs(message == value, False)
            self.assertIs(value == message, False)

    def test_a_message_is_not_iterated_over(self):
        with self.assertRaises(TypeError):
            list(Message(LAYOUT, 4, {}))


if __name__ == "__main__":
    unittest.main()
