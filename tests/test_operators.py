import unittest

from tests.values import WIDTHS, added, added_times, bits_of, no_integers, raised, some_values, turned_bits
from twozeros.errors import BadWord, UnlikeWidths
from twozeros.words import Word

FAR = (10 ** 9 + 7, 10 ** 18 + 1, 2 ** 64, 10 ** 30 - 1, 10 ** 30)


def plus(a, b):
    return a + b


def minus(a, b):
    return a - b


def unlike_bits(a, b):
    return a ^ b


def below(a, b):
    return a < b


def at_most(a, b):
    return a <= b


def above(a, b):
    return a > b


def at_least(a, b):
    return a >= b


def pairs(width):
    return [(x, y) for x in some_values(width) for y in some_values(width)]


class TwoWords(unittest.TestCase):
    def each_way(self, operator, width, x, y, wanted):
        """Words on both sides, and the integer on either side."""
        for one, other in ((Word(width, x), Word(width, y)), (Word(width, x), y), (x, Word(width, y))):
            made = operator(one, other)
            self.assertIs(type(made), Word)
            self.assertEqual((made.width, made.value), (width, wanted), (operator, one, other))

    def test_sums(self):
        for width in WIDTHS:
            for x, y in pairs(width):
                self.each_way(plus, width, x, y, added(width, x, y))

    def test_differences(self):
        for width in WIDTHS:
            for x, y in pairs(width):
                self.each_way(minus, width, x, y, added(width, x, 2 ** width - 1 - y))

    def test_unlike_bits(self):
        for width in WIDTHS:
            for x, y in pairs(width):
                wanted = "".join("01"[a != b] for a, b in zip(bits_of(width, x), bits_of(width, y)))
                self.each_way(unlike_bits, width, x, y, int(wanted, 2))

    def test_all_words_of_small_widths(self):
        for width in (1, 2, 3, 4):
            for x in range(2 ** width):
                for y in range(2 ** width):
                    self.each_way(plus, width, x, y, added(width, x, y))
                    self.each_way(minus, width, x, y, added(width, x, 2 ** width - 1 - y))

    def test_a_sum_is_empty_exactly_if_both_are(self):
        for width in WIDTHS:
            for x, y in pairs(width):
                self.assertIs((Word(width, x) + y).is_empty, x == 0 and y == 0)

    def test_empty_and_full_on_either_side(self):
        for width in WIDTHS:
            empty, full = Word.empty(width), Word.full(width)
            self.assertEqual([empty + empty, empty + full, full + empty, full + full], [empty, full, full, full])
            self.assertEqual([empty - empty, empty - full, full - empty, full - full], [full, empty, full, full])
            for value in some_values(width)[1:-1]:
                word = Word(width, value)
                self.assertEqual([word + empty, word + full, empty + word, full + word], [word] * 4)

    def test_equal_words_and_complements(self):
        for width in WIDTHS:
            for value in some_values(width):
                word = Word(width, value)
                self.assertEqual(word - word, Word.full(width))
                self.assertEqual(word + ~word, Word.full(width))
                self.assertEqual(word ^ word, Word.empty(width))
                self.assertEqual(word ^ ~word, Word.full(width))
                self.assertEqual(word - value, Word.full(width))
                self.assertEqual(value - word, Word.full(width))

    def test_width_one(self):
        one, none = Word(1, 1), Word(1, 0)
        self.assertEqual([(one + one).value, (~none).value, (~one).value, (none + none).value], [1, 1, 0, 0])

    def test_assignments_leave_the_words(self):
        first = second = Word(4, 9)
        first += 8
        self.assertEqual((first, second), (Word(4, 2), Word(4, 9)))
        first -= Word(4, 2)
        self.assertEqual(first, Word(4, 15))
        first ^= 5
        self.assertEqual(first, Word(4, 10))
        number = 7
        number -= second
        self.assertEqual((number, second), (Word(4, 13), Word(4, 9)))

    def test_no_operator_changes_a_word(self):
        a, b = Word(4, 9), Word(4, 8)
        for action in (lambda: a + b, lambda: a - b, lambda: a ^ b, lambda: 3 * a, lambda: a << 3, lambda: ~a):
            action()
            self.assertEqual([a.width, a.value, a.rest, a.is_empty, a.is_full, str(a)], [4, 9, 9, False, False, "1001"])
            self.assertEqual(b, Word(4, 8))

    def test_unlike_widths(self):
        for operator in (plus, minus, unlike_bits, below, at_most, above, at_least):
            for one, other in ((Word(4, 0), Word(5, 0)), (Word(64, 3), Word(1, 1)), (Word(1, 1), Word(2, 3))):
                raised(self, UnlikeWidths, lambda: operator(one, other), one=one.width, other=other.width)
        raised(self, UnlikeWidths, lambda: Word(4, 1).like(Word(3, 1)), one=4, other=3)

    def test_wrong_operands_on_either_side(self):
        for width in WIDTHS:
            word = Word(width, 1)
            for value in no_integers() + [-1, 2 ** width, 10 ** 30, -10 ** 30]:
                for operator in (plus, minus, unlike_bits):
                    with self.subTest(operator=operator, value=value):
                        raised(self, BadWord, lambda: operator(word, value), value=value)
                        raised(self, BadWord, lambda: operator(value, word), value=value)
                raised(self, BadWord, lambda: word.like(value), value=value)

    def test_wrong_operand_of_an_assignment(self):
        word = Word(4, 3)
        with self.assertRaises(BadWord):
            word += 16
        with self.assertRaises(BadWord):
            word -= None
        with self.assertRaises(UnlikeWidths):
            word ^= Word(3, 3)
        self.assertEqual(word, Word(4, 3))


class Times(unittest.TestCase):
    def products(self, width, x, k, wanted):
        word = Word(width, x)
        self.assertEqual([word * k, k * word], [Word(width, wanted)] * 2, (width, x, k))

    def test_near_products(self):
        for width in WIDTHS:
            for x in some_values(width):
                for k in {0, 1, 2, 3, 9, width - 1, width, width + 1}:
                    self.products(width, x, k, added_times(width, k, x))

    def test_all_small_products(self):
        for width in (1, 2, 3, 4):
            for x in range(2 ** width):
                for k in range(70):
                    self.products(width, x, k, added_times(width, k, x))

    def test_far_products_have_the_rest_and_are_empty_only_for_empty(self):
        for width in WIDTHS:
            most = 2 ** width - 1
            for x in some_values(width):
                for k in FAR:
                    rest = k * x % most
                    self.products(width, x, k, 0 if x == 0 else rest if rest else most)

    def test_no_times_is_empty(self):
        for width in WIDTHS:
            for x in some_values(width):
                self.products(width, x, 0, 0)

    def test_wrong_factors(self):
        word = Word(4, 6)
        for k in no_integers() + [-1, -10 ** 30, 10 ** 30 + 1, 10 ** 31, Word(4, 2), Word(5, 2)]:
            with self.subTest(k=k):
                raised(self, BadWord, lambda: word * k, value=k)
                raised(self, BadWord, lambda: word << k, value=k)
                raised(self, BadWord, lambda: word >> k, value=k)
                if not isinstance(k, Word):
                    raised(self, BadWord, lambda: k * word, value=k)

    def test_two_words_are_not_multiplied(self):
        a, b = Word(4, 6), Word(4, 6)
        raised(self, BadWord, lambda: a * b, value=b)
        raised(self, BadWord, lambda: a * a, value=a)


class Turns(unittest.TestCase):
    def test_near_turns(self):
        for width in WIDTHS:
            for x in some_values(width):
                word, bits = Word(width, x), bits_of(width, x)
                for k in {0, 1, 2, width - 1, width, width + 1, 2 * width, 2 * width + 3}:
                    self.assertEqual(str(word << k), turned_bits(bits, k), (width, x, k))
                    self.assertEqual(str(word >> k), turned_bits(bits, -k), (width, x, k))

    def test_far_turns(self):
        for width in WIDTHS:
            for x in some_values(width):
                word, bits = Word(width, x), bits_of(width, x)
                for k in FAR:
                    self.assertEqual(str(word << k), turned_bits(bits, k % width), (width, x, k))
                    self.assertEqual(str(word >> k), turned_bits(bits, -(k % width)), (width, x, k))

    def test_a_turn_is_the_product_with_a_power_of_two(self):
        for width in WIDTHS:
            for x in some_values(width):
                for k in range(0, 99, 7):
                    self.assertEqual(Word(width, x) << k, 2 ** k * Word(width, x))

    def test_turns_back(self):
        for width in WIDTHS:
            for x in some_values(width):
                for k in (0, 1, width, 10 ** 30):
                    self.assertEqual((Word(width, x) << k) >> k, Word(width, x))


class OneWord(unittest.TestCase):
    def test_complements(self):
        for width in WIDTHS:
            for x in some_values(width):
                self.assertEqual(~Word(width, x), Word(width, 2 ** width - 1 - x))
                self.assertEqual(~~Word(width, x), Word(width, x))

    def test_abs(self):
        for width in WIDTHS:
            most = 2 ** width - 1
            for x in some_values(width):
                self.assertEqual(abs(Word(width, x)), min(x % most, most - x % most))
        self.assertEqual([abs(Word(4, 0)), abs(Word(4, 15)), abs(Word(4, 7)), abs(Word(4, 8))], [0, 0, 7, 7])
        self.assertEqual([abs(Word(1, 0)), abs(Word(1, 1)), abs(Word(2, 1)), abs(Word(2, 2))], [0, 0, 1, 1])

    def test_like(self):
        for width in WIDTHS:
            most = 2 ** width - 1
            for x, y in pairs(width):
                alike = x % most == y % most
                self.assertIs(Word(width, x).like(Word(width, y)), alike)
                self.assertIs(Word(width, x).like(y), alike)

    def test_order(self):
        for width in WIDTHS:
            for x, y in pairs(width):
                a, b = Word(width, x), Word(width, y)
                self.assertEqual([a < b, a <= b, a > b, a >= b], [x < y, x <= y, x > y, x >= y])
                for answer in (a < b, a <= b, a > b, a >= b):
                    self.assertIs(type(answer), bool)

    def test_only_words_have_an_order(self):
        word = Word(4, 6)
        for value in no_integers() + [0, 6, 15, 16, -1]:
            for operator in (below, at_most, above, at_least):
                with self.subTest(operator=operator, value=value):
                    raised(self, BadWord, lambda: operator(word, value), value=value)
                    raised(self, BadWord, lambda: operator(value, word), value=value)


if __name__ == "__main__":
    unittest.main()
