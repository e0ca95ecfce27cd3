import unittest

from tests.values import WIDTHS, bits_of, no_integers, raised, some_values
from twozeros.errors import BadWidth, BadWord
from twozeros.words import Word


class Made(unittest.TestCase):
    def test_most_width(self):
        self.assertEqual(Word.MOST_WIDTH, 64)
        self.assertEqual(Word(3, 1).MOST_WIDTH, 64)

    def test_attributes(self):
        for width in WIDTHS:
            most = 2 ** width - 1
            for value in some_values(width):
                with self.subTest(width=width, value=value):
                    word = Word(width, value)
                    self.assertEqual((word.width, word.value, word.rest), (width, value, value % most))
                    self.assertIs(word.is_empty, value == 0)
                    self.assertIs(word.is_full, value == most)
                    self.assertIs(bool(word), value != 0)

    def test_width_one_has_only_the_rest_zero(self):
        self.assertEqual([Word(1, 0).rest, Word(1, 1).rest], [0, 0])
        self.assertEqual([Word(1, 0).is_full, Word(1, 1).is_full, Word(1, 1).is_empty], [False, True, False])

    def test_full_has_the_rest_zero_and_is_not_empty(self):
        for width in WIDTHS:
            full = Word.full(width)
            self.assertEqual((full.value, full.rest), (2 ** width - 1, 0))
            self.assertIs(full.is_empty, False)
            self.assertIs(bool(full), True)
            empty = Word.empty(width)
            self.assertEqual((empty.value, empty.rest, empty.is_empty, empty.is_full), (0, 0, True, False))

    def test_arguments_by_name(self):
        self.assertEqual(Word(width=4, value=6), Word(4, 6))
        self.assertEqual(Word(value=6, width=4), Word(4, 6))
        self.assertEqual(Word.empty(width=4), Word(4, 0))
        self.assertEqual(Word.full(width=4), Word(4, 15))
        self.assertEqual(Word.read(text="0110"), Word(4, 6))
        self.assertIs(Word(4, 6).like(other=6), True)

    def test_wrong_widths(self):
        wrong = no_integers() + [0, -1, 65, 10 ** 30, -10 ** 30, Word(4, 6)]
        for width in wrong:
            with self.subTest(width=width):
                raised(self, BadWidth, lambda: Word(width, 0), width=width)
                raised(self, BadWidth, lambda: Word.empty(width), width=width)
                raised(self, BadWidth, lambda: Word.full(width), width=width)

    def test_wrong_values(self):
        for width in WIDTHS:
            for value in no_integers() + [-1, 2 ** width, -10 ** 30, 10 ** 30, Word(width, 0)]:
                with self.subTest(width=width, value=value):
                    raised(self, BadWord, lambda: Word(width, value), value=value)

    def test_the_width_is_asked_first(self):
        for width in no_integers() + [0, 65]:
            for value in no_integers() + [-1, 2 ** 64]:
                raised(self, BadWidth, lambda: Word(width, value), width=width)


class Texts(unittest.TestCase):
    def test_str_and_read(self):
        for width in WIDTHS:
            for value in some_values(width):
                with self.subTest(width=width, value=value):
                    bits = bits_of(width, value)
                    self.assertEqual(str(Word(width, value)), bits)
                    word = Word.read(bits)
                    self.assertIs(type(word), Word)
                    self.assertEqual((word.width, word.value), (width, value))

    def test_repr(self):
        self.assertEqual(repr(Word(4, 6)), "Word(4, 6)")
        self.assertEqual(repr(Word(1, 0)), "Word(1, 0)")
        self.assertEqual(repr(Word.full(64)), "Word(64, 18446744073709551615)")

    def test_read_of_all_lengths(self):
        for length in range(1, 65):
            self.assertEqual(Word.read("0" * length), Word.empty(length))
            self.assertEqual(Word.read("1" * length), Word.full(length))
            self.assertEqual(Word.read("1" + "0" * (length - 1)).value, 2 ** (length - 1))

    def test_wrong_texts(self):
        wrong = [
            "", "2", "012", "0b1", "+1", "-1", "1_0", " 1", "1 ", "1\n", "0 1", "a", "0" * 65, "1" * 65, "0" * 2000,
            "\u0661", "\uff11", "1\u0660", b"01", 1, 0, 101, ["0", "1"], ("1",), {"0": 1}, None, True, False, Word(2, 1),
        ]
        for text in wrong:
            with self.subTest(text=text):
                raised(self, BadWord, lambda: Word.read(text), value=text)


class Equal(unittest.TestCase):
    def test_equal_exactly_with_the_same_width_and_value(self):
        words = [Word(width, value) for width in WIDTHS for value in some_values(width)]
        for one in words:
            for other in words:
                alike = (one.width, one.value) == (other.width, other.value)
                self.assertIs(one == other, alike)
                self.assertIs(one != other, not alike)

    def test_a_twin_is_equal(self):
        for width in WIDTHS:
            for value in some_values(width):
                self.assertIs(Word(width, value) == Word(width, value), True)
                self.assertIs(Word(width, value) != Word(width, value), False)

    def test_unequal_to_any_other_value(self):
        for value in no_integers() + [0, 1, 6, 15, 10 ** 30, 2.5]:
            for word in (Word(4, 0), Word(4, 6), Word(1, 1), Word(4, 15)):
                with self.subTest(value=value, word=word):
                    self.assertIs(word == value, False)
                    self.assertIs(value == word, False)
                    self.assertIs(word != value, True)
                    self.assertIs(value != word, True)

    def test_empty_and_full_are_unequal_but_like(self):
        for width in WIDTHS:
            empty, full = Word.empty(width), Word.full(width)
            self.assertIs(empty == full, False)
            self.assertIs(empty.like(full), True)
            self.assertIs(full.like(empty), True)


if __name__ == "__main__":
    unittest.main()
