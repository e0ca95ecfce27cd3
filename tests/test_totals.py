import unittest

from tests.values import WIDTHS, added, no_integers, raised, some_values
from twozeros.errors import BadWidth, BadWord, NotThere, UnlikeWidths
from twozeros.totals import Running, total
from twozeros.words import Word


class Stop(Exception):
    pass


def running_with(width, *words):
    running = Running(width)
    for word in words:
        running.add(word)
    return running


def sum_of_values(width, values):
    so_far = 0
    for value in values:
        so_far = added(width, so_far, value)
    return so_far


class Total(unittest.TestCase):
    def test_of_one(self):
        for width in WIDTHS:
            for value in some_values(width):
                self.assertEqual(total(Word(width, value)), Word(width, value))
        self.assertEqual(total(first=Word(4, 6)), Word(4, 6))

    def test_of_several(self):
        for width in WIDTHS:
            values = some_values(width)
            for split in range(1, len(values)):
                wanted = Word(width, sum_of_values(width, values))
                words = [Word(width, value) for value in values[:split]]
                self.assertEqual(total(*words, *values[split:]), wanted)
                self.assertEqual(total(*words[::-1], *values[:split - 1:-1]), wanted)

    def test_of_very_many(self):
        self.assertEqual(total(Word(4, 0), *[1] * 5000), Word(4, 5))
        self.assertEqual(total(Word(4, 0), *[0] * 5000), Word(4, 0))
        self.assertEqual(total(Word(4, 0), *[15] * 5000), Word(4, 15))

    def test_the_first_is_a_word(self):
        for value in no_integers() + [0, 1, 15]:
            with self.subTest(value=value):
                raised(self, BadWord, lambda: total(value), value=value)
                raised(self, BadWord, lambda: total(value, None, Word(3, 1)), value=value)

    def test_the_first_wrong_one_from_the_left(self):
        word, three = Word(4, 6), Word(3, 1)
        for value in no_integers() + [-1, 16]:
            with self.subTest(value=value):
                raised(self, BadWord, lambda: total(word, 3, value, three), value=value)
                raised(self, UnlikeWidths, lambda: total(word, 3, three, value), one=4, other=3)
        raised(self, BadWord, lambda: total(word, -1, 16), value=-1)
        raised(self, UnlikeWidths, lambda: total(word, Word(5, 1), three), one=4, other=5)


class Kept(unittest.TestCase):
    def holds(self, running, width, values):
        """All that can be asked of a running total, by the values that should be kept."""
        self.assertEqual(running.width, width)
        self.assertIs(type(running.total), Word)
        self.assertEqual(running.total, Word(width, sum_of_values(width, values)))
        self.assertEqual(len(running), len(values))
        self.assertEqual(running.ascending(), [Word(width, value) for value in sorted(values)])
        for value in range(2 ** width) if width <= 4 else some_values(width):
            self.assertIs(value in running, value in values)
            self.assertIs(Word(width, value) in running, value in values)

    def test_none(self):
        for width in WIDTHS:
            self.holds(Running(width), width, [])
        self.holds(Running(width=4), 4, [])

    def test_wrong_widths(self):
        for width in no_integers() + [0, -1, 65, 10 ** 30, Word(4, 6)]:
            with self.subTest(width=width):
                raised(self, BadWidth, lambda: Running(width), width=width)

    def test_add_and_drop_in_every_way(self):
        for width in WIDTHS:
            running = same = Running(width)
            kept = []
            for value in some_values(width) * 2:
                self.assertIsNone(running.add(value))
                self.assertIsNone(running.add(word=Word(width, value)))
                running += value
                running += Word(width, value)
                kept = kept + [value] * 4
                self.assertIs(running, same)
                self.holds(running, width, kept)
            for value in some_values(width) * 2:
                self.assertIsNone(running.drop(Word(width, value)))
                self.assertIsNone(running.drop(word=value))
                running -= Word(width, value)
                running -= value
                for _ in range(4):
                    kept.remove(value)
                self.assertIs(running, same)
                self.holds(running, width, kept)
            self.assertEqual(kept, [])

    def test_sums_do_not_follow_from_the_last_total(self):
        running = running_with(4, 5, ~Word(4, 5))
        self.assertEqual(running.total.value, 15)
        running.drop(5)
        self.assertEqual(running.total.value, 10)
        running = running_with(4, 15)
        running.drop(15)
        self.assertEqual(running.total.value, 0)
        running = running_with(4, 15, 15)
        running.drop(15)
        self.assertEqual(running.total.value, 15)
        running = running_with(4, 15, 0, 0)
        running.drop(15)
        self.assertEqual((running.total.value, len(running)), (0, 2))

    def test_both_zeros_of_width_one(self):
        running = running_with(1, 0, 1, 0)
        self.holds(running, 1, [0, 1, 0])
        running.drop(1)
        self.holds(running, 1, [0, 0])

    def test_exchange(self):
        running = running_with(4, 9, 9, 6)
        self.assertIsNone(running.exchange(9, Word(4, 15)))
        self.holds(running, 4, [9, 15, 6])
        self.assertIsNone(running.exchange(old=Word(4, 15), new=0))
        self.holds(running, 4, [9, 0, 6])
        running.exchange(6, 6)
        self.holds(running, 4, [9, 0, 6])

    def test_wrong_words(self):
        for width in WIDTHS:
            running = running_with(width, 0, 1)
            for value in no_integers() + [-1, 2 ** width, 10 ** 30, Word(width % 64 + 1, 1)]:
                with self.subTest(width=width, value=value):
                    raised(self, BadWord, lambda: running.add(value), value=value)
                    raised(self, BadWord, lambda: running.drop(value), value=value)
                    raised(self, BadWord, lambda: running.exchange(value, 0), value=value)
                    raised(self, BadWord, lambda: running.exchange(0, value), value=value)
                    raised(self, BadWord, lambda: running.__iadd__(value), value=value)
                    raised(self, BadWord, lambda: running.__isub__(value), value=value)
                    self.assertIs(value in running, False)
                    self.holds(running, width, [0, 1])

    def test_wrong_words_in_assignments(self):
        running = same = running_with(4, 9)
        with self.assertRaises(BadWord):
            running += 16
        with self.assertRaises(BadWord):
            running -= Word(5, 9)
        with self.assertRaises(NotThere):
            running -= 8
        self.assertIs(running, same)
        self.holds(running, 4, [9])

    def test_words_that_are_not_there(self):
        running = running_with(4, 9, 15)
        for word in (8, 0, Word(4, 8), Word(4, 0)):
            raised(self, NotThere, lambda: running.drop(word), word=word)
            raised(self, NotThere, lambda: running.__isub__(word), word=word)
            raised(self, NotThere, lambda: running.exchange(word, word), word=word)
            raised(self, NotThere, lambda: running.exchange(word, 16), word=word)
        running.drop(9)
        raised(self, NotThere, lambda: running.drop(9), word=9)
        raised(self, NotThere, lambda: Running(4).drop(0), word=0)
        self.holds(running, 4, [15])

    def test_which_error_of_an_exchange_comes_first(self):
        running = running_with(4, 9)
        raised(self, BadWord, lambda: running.exchange(-1, 16), value=-1)
        raised(self, NotThere, lambda: running.exchange(8, -1), word=8)
        raised(self, BadWord, lambda: running.exchange(9, -1), value=-1)
        self.holds(running, 4, [9])

    def test_what_it_returns_is_new(self):
        running = running_with(4, 9, 6)
        running.ascending().clear()
        before = running.total
        running.add(1)
        self.assertEqual(before, Word(4, 15))
        self.holds(running, 4, [9, 6, 1])

    def test_only_equal_to_itself(self):
        one, other = running_with(4, 9), running_with(4, 9)
        self.assertEqual([one == one, one != one, one == other, one != other], [True, False, False, True])
        for value in no_integers() + [0, 9, Word(4, 9)]:
            self.assertIs(one == value, False)
            self.assertIs(value == one, False)

    def test_beside_a_word(self):
        running, word = running_with(4, 9), Word(4, 9)
        raised(self, BadWord, lambda: word + running, value=running)
        raised(self, BadWord, lambda: running + word, value=running)

    def test_many_words(self):
        running = Running(64)
        for value in range(5000):
            running += value
        self.assertEqual((running.total.value, len(running)), (sum(range(5000)), 5000))
        for value in range(4999, 0, -1):
            running -= value
        self.holds(running, 64, [0])


class Trials(unittest.TestCase):
    def test_undone_at_the_end(self):
        running = same = running_with(4, 9, 6)
        with running.trial():
            running += 15
            running -= 9
            running.exchange(6, 3)
            running.drop(3)
            running.add(0)
            self.assertEqual([word.value for word in running.ascending()], [0, 15])
            self.assertEqual((running.total.value, len(running), 9 in running), (15, 2, False))
        self.assertIs(running, same)
        self.assertEqual([word.value for word in running.ascending()], [6, 9])
        self.assertEqual((running.total.value, len(running), 9 in running, 0 in running), (15, 2, True, False))

    def test_the_error_goes_on(self):
        running = running_with(4, 9)
        error = Stop()
        with self.assertRaises(Stop) as caught:
            with running.trial():
                running.add(6)
                raise error
        self.assertIs(caught.exception, error)
        self.assertEqual((running.total.value, len(running)), (9, 1))

    def test_own_errors_go_on(self):
        running = running_with(4, 9)
        with self.assertRaises(NotThere):
            with running.trial():
                running.drop(9)
                running.drop(9)
        self.assertEqual((running.total.value, len(running)), (9, 1))

    def test_begins_with_the_block(self):
        running = Running(4)
        trial = running.trial()
        running.add(5)
        with trial:
            running.add(7)
        self.assertEqual(running.ascending(), [Word(4, 5)])
        running.add(6)
        with trial:
            running.drop(5)
        self.assertEqual(running.ascending(), [Word(4, 5), Word(4, 6)])

    def test_nested(self):
        running = running_with(4, 1)
        with running.trial():
            running.add(2)
            with running.trial():
                running.add(3)
                with running.trial():
                    running.drop(1)
                    self.assertEqual(running.ascending(), [Word(4, 2), Word(4, 3)])
                self.assertEqual(running.ascending(), [Word(4, 1), Word(4, 2), Word(4, 3)])
            self.assertEqual(running.ascending(), [Word(4, 1), Word(4, 2)])
            running.drop(1)
            with running.trial():
                running.add(15)
            self.assertEqual((running.ascending(), running.total.value), ([Word(4, 2)], 2))
        self.assertEqual((running.ascending(), running.total.value), ([Word(4, 1)], 1))

    def test_one_trial_nested_in_itself(self):
        running = running_with(4, 1)
        trial = running.trial()
        with trial:
            running.add(2)
            with trial:
                running.add(3)
            self.assertEqual(running.ascending(), [Word(4, 1), Word(4, 2)])
        self.assertEqual(running.ascending(), [Word(4, 1)])

    def test_nested_with_an_error_that_is_caught_between(self):
        running = running_with(4, 1)
        with running.trial():
            running.add(2)
            with self.assertRaises(Stop):
                with running.trial():
                    running.add(3)
                    raise Stop()
            self.assertEqual(running.ascending(), [Word(4, 1), Word(4, 2)])
        self.assertEqual(running.ascending(), [Word(4, 1)])

    def test_nested_with_an_error_through_all(self):
        running = running_with(4, 1)
        with self.assertRaises(Stop):
            with running.trial():
                running.drop(1)
                with running.trial():
                    running.add(3)
                    raise Stop()
        self.assertEqual((running.ascending(), len(running)), ([Word(4, 1)], 1))

    def test_an_empty_block(self):
        running = running_with(4, 1)
        with running.trial():
            pass
        self.assertEqual(running.ascending(), [Word(4, 1)])

    def test_trials_of_two_running_totals(self):
        one, other = running_with(4, 1), running_with(4, 2)
        with one.trial():
            one.add(3)
            other.add(4)
        self.assertEqual((one.ascending(), other.ascending()), ([Word(4, 1)], [Word(4, 2), Word(4, 4)]))

    def test_tried_returns_what_ask_returns(self):
        running = running_with(4, 9)

        def ask():
            running.add(8)
            return running.total

        self.assertEqual(running.tried(ask), Word(4, 2))
        self.assertEqual(running.tried(ask=ask), Word(4, 2))
        self.assertIsNone(running.tried(lambda: None))
        self.assertEqual((running.total.value, len(running)), (9, 1))

    def test_tried_with_an_error(self):
        running = running_with(4, 9)

        def ask():
            running.drop(9)
            running.drop(9)

        raised(self, NotThere, lambda: running.tried(ask), word=9)
        self.assertEqual((running.total.value, len(running)), (9, 1))

    def test_tried_within_trials_and_trials_within_tried(self):
        running = running_with(4, 1)

        def inner():
            running.add(4)
            return len(running)

        def outer():
            running.add(3)
            with running.trial():
                running.add(5)
            return [running.tried(inner), len(running)]

        with running.trial():
            running.add(2)
            self.assertEqual(running.tried(outer), [4, 3])
            self.assertEqual(len(running), 2)
        self.assertEqual(running.ascending(), [Word(4, 1)])

    def test_changes_stay_behind_a_trial(self):
        running = running_with(4, 1)
        with running.trial():
            running.add(2)
        running.add(3)
        running.drop(1)
        self.assertEqual((running.ascending(), running.total.value), ([Word(4, 3)], 3))


if __name__ == "__main__":
    unittest.main()
