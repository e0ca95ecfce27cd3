import random
import unittest

from tests.values import added, bits_of, no_integers, raised
from twozeros.errors import BadRows, BadWidth, BadWord
from twozeros.halves import half_total, joined, packed
from twozeros.words import Word

EVEN = (2, 4, 6, 8, 32, 62, 64)


def some_halves(width):
    """Lists of halves: none, one, even and odd numbers of them, all 0 and all bits."""
    most = 2 ** (width // 2) - 1
    drawn = random.Random(width)
    lists = [[], [0], [most], [0] * 2, [0] * 5, [most] * 2, [most] * 3, [most] * 6, [0, most], [most, 0, most], [1, 0]]
    return lists + [[drawn.randint(0, most) for _ in range(number)] for number in range(9)]


def bits_packed(width, halves):
    """The words, written half by half."""
    texts = [bits_of(width // 2, half) for half in halves]
    if len(texts) % 2 == 1:
        texts.append("0" * (width // 2))
    return [texts[at] + texts[at + 1] for at in range(0, len(texts), 2)]


def sum_packed(width, halves):
    so_far = 0
    for bits in bits_packed(width, halves):
        so_far = added(width, so_far, int(bits, 2))
    return so_far


class Halves(unittest.TestCase):
    def test_packed(self):
        for width in EVEN:
            for halves in some_halves(width):
                with self.subTest(width=width, halves=halves):
                    words = packed(width, halves)
                    self.assertIs(type(words), list)
                    self.assertEqual([str(word) for word in words], bits_packed(width, halves))
                    self.assertEqual([word.width for word in words], [width] * len(words))

    def test_half_total(self):
        for width in EVEN:
            for halves in some_halves(width):
                with self.subTest(width=width, halves=halves):
                    self.assertEqual(half_total(width, halves), Word(width, sum_packed(width, halves)))

    def test_none_and_both_zeros(self):
        for width in EVEN:
            half = 2 ** (width // 2) - 1
            self.assertEqual(packed(width, []), [])
            self.assertEqual(half_total(width, []), Word.empty(width))
            self.assertEqual(half_total(width, [0] * 7), Word.empty(width))
            self.assertEqual(half_total(width, [half] * 8), Word.full(width))
            self.assertEqual(half_total(width, [half]), Word(width, half << width // 2))

    def test_arguments_stay_and_can_be_named(self):
        halves, pieces = [1, 2, 3], [(1, Word(4, 4)), (2, Word(4, 11))]
        self.assertEqual(packed(width=4, halves=halves), [Word(4, 6), Word(4, 12)])
        self.assertEqual(half_total(width=4, halves=halves), Word(4, 3))
        self.assertEqual(joined(width=4, pieces=pieces), Word(4, 3))
        self.assertEqual((halves, pieces), ([1, 2, 3], [(1, Word(4, 4)), (2, Word(4, 11))]))

    def test_very_many(self):
        halves = list(range(5000)) + [5000]
        self.assertEqual(half_total(32, halves), Word(32, sum_packed(32, halves)))
        self.assertEqual(len(packed(32, halves)), 2501)

    def test_wrong_widths(self):
        for width in no_integers() + [0, -2, 1, 3, 63, 65, 66, 10 ** 30, Word(4, 6)]:
            with self.subTest(width=width):
                raised(self, BadWidth, lambda: packed(width, [None]), width=width)
                raised(self, BadWidth, lambda: half_total(width, [None]), width=width)
                raised(self, BadWidth, lambda: joined(width, [None]), width=width)

    def test_wrong_halves(self):
        for width in EVEN:
            for value in no_integers() + [-1, 2 ** (width // 2), 10 ** 30, Word(width, 0)]:
                for halves in ([value], [0, value, None], [1, 0, 1, value, -1]):
                    with self.subTest(width=width, halves=halves):
                        raised(self, BadWord, lambda: packed(width, halves), value=value)
                        raised(self, BadWord, lambda: half_total(width, halves), value=value)


class Joined(unittest.TestCase):
    def test_of_none_and_of_one(self):
        for width in EVEN:
            self.assertEqual(joined(width, []), Word.empty(width))
            for number in (0, 1, 2, 10 ** 30):
                for value in (0, 1, 2 ** width - 1):
                    self.assertEqual(joined(width, [(number, Word(width, value))]), Word(width, value))

    def test_the_fact_for_two_pieces(self):
        for width in EVEN:
            for a in some_halves(width):
                for b in some_halves(width):
                    pieces = [(len(a), half_total(width, a)), (len(b), half_total(width, b))]
                    self.assertEqual(joined(width, pieces), half_total(width, a + b), (width, a, b))

    def test_many_pieces(self):
        for width in EVEN:
            parts = some_halves(width)
            pieces = [(len(part), half_total(width, part)) for part in parts]
            self.assertEqual(joined(width, pieces), half_total(width, sum(parts, [])))

    def test_only_odd_numbers_ahead_turn(self):
        one, turned = Word(4, 1), Word(4, 4)
        empty = Word.empty(4)
        for number in (1, 3, 10 ** 30 - 1):
            self.assertEqual(joined(4, [(number, empty), (1, one)]), turned)
            self.assertEqual(joined(4, [(number, empty), (number, empty), (1, one)]), one)
            self.assertEqual(joined(4, [(number, empty), (10 ** 30, empty), (1, one)]), turned)
        for number in (0, 2, 10 ** 30):
            self.assertEqual(joined(4, [(number, empty), (1, one)]), one)
            self.assertEqual(joined(4, [(number, empty), (1, empty), (1, one)]), turned)

    def test_number_and_total_need_not_belong_together(self):
        self.assertEqual(joined(4, [(0, Word(4, 9)), (0, Word(4, 8))]), Word(4, 2))
        self.assertEqual(joined(4, [(0, Word.full(4)), (0, Word.empty(4))]), Word.full(4))

    def test_wrong_pieces(self):
        good = (1, Word(4, 6))
        wrong = no_integers() + [
            0, Word(4, 6), [1, Word(4, 6)], (1,), (1, Word(4, 6), 0), (1, 6), (1, Word(2, 1)), (1, Word(5, 1)),
            (-1, Word(4, 6)), (10 ** 30 + 1, Word(4, 6)), (True, Word(4, 6)), (None, Word(4, 6)), ("1", Word(4, 6)),
            (Word(4, 6), 1), (1, None), (1, [Word(4, 6)]), (Word(4, 1), Word(4, 6)),
        ]
        for piece in wrong:
            with self.subTest(piece=piece):
                raised(self, BadRows, lambda: joined(4, [piece]), at=0)
                raised(self, BadRows, lambda: joined(4, [good, good, piece, None]), at=2)


if __name__ == "__main__":
    unittest.main()
