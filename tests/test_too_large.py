"""Sayings that are too large for the functions that count, and such that just are not."""

import unittest

from tests.values import raised
from twozeros.counts import count, example, examples, weighted, weights
from twozeros.errors import BadPaper, BadWidth, BadWord, NoWord, TooLarge
from twozeros.formulas import named, number
from twozeros.papers import counted, is_paper, paper, table_of
from twozeros.sayings import Saying, all_of, any_of, is_empty, is_full, like
from twozeros.tables import always, exactly, sometimes, table

x, y = named("x"), named("y")
BOUNDS = {"names": 6, "forms": 8, "number": 1000, "systems": 500, "length": 5040}

# With other arguments that are wrong, too: what is told of the saying comes first.
ASKED = [
    lambda s: next(weights(s)), lambda s: count(s, 0), lambda s: example(s, None), lambda s: next(examples(s, 0)),
    lambda s: weighted(s, 7, 9999, "1"), table, always, sometimes, exactly, lambda s: exactly(s, None, -1), paper,
]
ASKED_OF_PAPERS = [lambda s: is_paper(s, None), lambda s: counted(s, None, 0), lambda s: table_of(s, None)]

# Eight forms, and 500 and 501 pairs with weights that are not 0.
PAIRS_500 = (
    "isempty(x) & (like(x, 0) ^ (~like(x + (x << 1), 0) ^ (like(x + (x << 2), 0) | like(x + (x << 1) + (x << 2), 0) | "
    "like(x + (x << 3), 0)) ^ like(x + (x << 1) + (x << 3), 0) | (like(x + (x << 2) + (x << 3), 0) | like(x + (x << 1) + "
    "(x << 2) + (x << 3), 0)))) | ~isempty(x) & (like(x, 0) ^ like(x + (x << 1), 0) ^ (~like(x + (x << 2), 0) ^ (like(x + "
    "(x << 1) + (x << 2), 0) | like(x + (x << 3), 0)) ^ (like(x + (x << 1) + (x << 3), 0) ^ like(x + (x << 2) + (x << 3), "
    "0)) | like(x + (x << 1) + (x << 2) + (x << 3), 0)))"
)
PAIRS_501 = (
    "isempty(x) & (like(x, 0) ^ (~like(x + (x << 1), 0) ^ (like(x + (x << 2), 0) | like(x + (x << 1) + (x << 2), 0) | "
    "like(x + (x << 3), 0)) ^ like(x + (x << 1) + (x << 3), 0) | (like(x + (x << 2) + (x << 3), 0) | like(x + (x << 1) + "
    "(x << 2) + (x << 3), 0)))) | ~isempty(x) & ((like(x, 0) | like(x + (x << 1), 0) | like(x + (x << 2), 0) | like(x + "
    "(x << 1) + (x << 2), 0)) ^ ~like(x + (x << 3), 0) ^ like(x + (x << 1) + (x << 3), 0) | like(x + (x << 2) + (x << 3), "
    "0) ^ like(x + (x << 1) + (x << 2) + (x << 3), 0))"
)


def times(k, formula):
    """The formula k times, for k that is not 0, as a sum of turns."""
    parts = [formula << place if place else formula for place in range(abs(k).bit_length()) if abs(k) >> place & 1]
    made = parts[0]
    for part in parts[1:]:
        made = made + part
    return made if k > 0 else ~made


def zero(*terms):
    """The saying that the sum of numbers times formulas has the rest 0."""
    made = times(*terms[0])
    for k, formula in terms[1:]:
        made = made + times(k, formula)
    return like(made, number(0))


def zeros(*numbers):
    return [zero((k, x)) for k in numbers]


class TooLargeSayings(unittest.TestCase):
    def refused(self, saying, what):
        for ask in ASKED + (ASKED_OF_PAPERS if what != "length" else []):
            with self.assertRaises(TooLarge) as caught:
                ask(saying)
            self.assertEqual(vars(caught.exception), {"what": what, "most": BOUNDS[what]})

    def accepted(self, saying):
        """Each function answers, as far as its other arguments are right, or finds these wrong."""
        first = next(weights(saying))
        self.assertEqual(len(first), 3)
        self.assertEqual(count(saying, 3), table(saying).count_at(3))
        self.assertEqual(example(saying, 2) is None, count(saying, 2) == 0)
        self.assertTrue(is_paper(saying, paper(saying)))
        raised(self, BadWidth, lambda: count(saying, 0), width=0)
        raised(self, BadWidth, lambda: example(saying, None), width=None)
        raised(self, BadWidth, lambda: next(examples(saying, 0)), width=0)
        raised(self, NoWord, lambda: weighted(saying, 7, 9999, 400), name=7)
        raised(self, BadWord, lambda: exactly(saying, 3, None), value=None)
        self.assertIs(is_paper(saying, None), False)
        raised(self, BadWidth, lambda: counted(saying, None, 0), width=0)
        raised(self, BadPaper, lambda: counted(saying, None, 400))
        raised(self, BadPaper, lambda: table_of(saying, None))

    def test_names(self):
        names = [named(letter) for letter in "abcdefg"]
        self.accepted(all_of(*[is_empty(name) for name in names[:6]]))
        self.refused(all_of(*[is_empty(name) for name in names]), "names")

    def test_forms(self):
        self.accepted(all_of(*zeros(1, 3, 5, 7, 9, 15, 21, 63)))
        self.refused(all_of(*zeros(1, 3, 5, 7, 9, 15, 21, 63, 31)), "forms")
        self.accepted(all_of(*zeros(1, 3, 5, 7, 9, 15, 21, 63, 2, -3, 20)))

    def test_numbers(self):
        for terms in (
            [(999, x)], [(2000, x)], [(-2000, x)], [(1000, x), (1, y)], [(-1000, x), (1, y)], [(1, x), (-1000, y)],
            [(1, x), (1000, y)], [(1, x), (1000, number(1))], [(1, x), (-1000, number(1))], [(1000, number(1))],
        ):
            self.accepted(zero(*terms))
        for terms in (
            [(1001, x)], [(2002, x)], [(-1001, x)], [(1001, x), (1, y)], [(1, x), (-1001, y)], [(1, x), (1001, y)],
            [(1002, x), (1, y)], [(1, x), (1001, number(1))], [(1, x), (-1001, number(1))], [(1001, number(1))],
        ):
            self.refused(zero(*terms), "number")
        self.refused(is_full(x) | zero((1001, x)), "number")

    def test_a_number_that_plays_no_part(self):
        self.refused(zero((1001, x)) & ~zero((1001, x)), "number")

    def test_systems(self):
        self.assertEqual(len([1 for _, chosen, _ in weights(Saying.read(PAIRS_500)) if chosen]), 500)
        self.accepted(Saying.read(PAIRS_500))
        self.refused(Saying.read(PAIRS_501), "systems")
        self.refused(any_of(*zeros(1, 3, 5, 7, 9, 15, 21, 63)), "systems")

    def test_pairs_without_forms_do_not_count(self):
        apart = all_of(*[~is_empty(named(letter)) for letter in "abcdef"])
        self.assertEqual(len(list(weights(apart))), 1)
        self.accepted(~apart)

    def test_length(self):
        for saying in (
            any_of(*zeros(257, 73, 31, 127)), zero((41, x), (1, y)) & zero((-8, x), (999, y)), any_of(*zeros(251, 1)),
            zero((21, x), (1, y)) & zero((1, x), (480, y)),
        ):
            self.accepted(saying)
        self.assertEqual(table(any_of(*zeros(257, 73, 31, 127))).length, 5040)
        for saying in (
            any_of(*zeros(101, 103)), any_of(*zeros(257, 73, 31, 127, 23)), zero((21, x), (1, y)) & zero((4, x), (961, y)),
        ):
            self.refused(saying, "length")
            self.assertIs(is_paper(saying, []), False)
            raised(self, BadWidth, lambda: counted(saying, None, 0), width=0)
            raised(self, BadPaper, lambda: counted(saying, [], 1))
            raised(self, BadPaper, lambda: table_of(saying, []))

    def test_divisors_of_systems_that_cannot_be_solved(self):
        saying = like(times(101, x) + 1, number(0)) & like(times(103, x) + 2, number(0))
        self.accepted(saying)
        unsolved = [like(times(101, x) + 1, number(0)), like(times(103, x) + 2, number(0))]
        self.refused(any_of(*unsolved), "length")
        both = like(times(3, x) + 1, number(0)) & like(times(3, x) + 2, number(0))
        self.assertEqual([divisors for *_, made in paper(both) for divisors in made.divisors], [3])

    def test_order(self):
        many = [is_empty(named(letter)) for letter in "abcdefg"]
        nine = zeros(1, 3, 5, 7, 9, 11, 13, 15, 1001)
        self.refused(all_of(*many) | all_of(*nine), "names")
        self.refused(any_of(*nine), "forms")
        self.refused(any_of(*zeros(1, 3, 5, 7, 9, 11, 13, 1001)), "number")
        self.refused(any_of(*zeros(101, 103, 257, 73, 31, 127, 23, 1)), "systems")
        self.refused(any_of(*zeros(101, 103, 257, 73)), "length")


if __name__ == "__main__":
    unittest.main()
