"""The examples of the document, word for word."""

import doctest
import unittest

PART_1 = """
>>> from twozeros.words import Word
>>> a, b = Word(4, 9), Word(4, 8)
>>> [str(a), (a + b).value, (~a).value, (a - a).is_full, (3 * a).value, (a << 1).value, abs(a), (7 - a).value]
['1001', 2, 6, True, 12, 3, 6, 13]
>>> full = Word.full(4)
>>> [full.rest, full == Word.empty(4), full.like(0), (full + 0).value, (0 * full).value, bool(full - 0)]
[0, False, True, 15, 0, True]
"""

PART_2 = """
>>> from twozeros.totals import Running, total
>>> from twozeros.words import Word
>>> kept = Running(4)
>>> kept += 9
>>> kept += Word(4, 6)
>>> [kept.total.value, len(kept), 6 in kept, total(Word(4, 9), 6, 0).value]
[15, 2, True, 15]
>>> kept -= 9
>>> kept.drop(6)
>>> kept.total.value
0
>>> from twozeros.halves import half_total, joined, packed
>>> [str(word) for word in packed(4, [1, 2, 3])]
['0110', '1100']
>>> [half_total(4, [1, 2, 3]).value, half_total(4, [1]).value, half_total(4, [2, 3]).value]
[3, 4, 11]
>>> joined(4, [(1, Word(4, 4)), (2, Word(4, 11))]).value
3
"""


class Examples(unittest.TestCase):
    def run_example(self, name, text):
        example = doctest.DocTestParser().get_doctest(text, {}, name, None, None)
        said = []
        result = doctest.DocTestRunner(verbose=False).run(example, out=said.append)
        self.assertEqual(result.failed, 0, "".join(said))
        self.assertEqual(result.attempted, text.count(">>> "))

    def test_part_1(self):
        self.run_example("part 1", PART_1)

    def test_part_2(self):
        self.run_example("part 2", PART_2)


if __name__ == "__main__":
    unittest.main()
