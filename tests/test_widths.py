import unittest
from itertools import islice
from math import gcd, lcm

from tests.trees import chances
from tests.values import no_integers, raised
from twozeros.errors import BadWidth, BadWidths, TooLarge
from twozeros.stairs import order_of
from twozeros.widthsets import Widths
from twozeros.words import Word

FAR = 10 ** 30


def divisors_of(number):
    return [divisor for divisor in range(1, number + 1) if number % divisor == 0]


def form_of(widths):
    return widths.head, widths.start, widths.length, widths.divisors


def random_told(chance, most_start=12, most_length=40):
    """The arguments of told."""
    start, length = chance.randint(1, most_start), chance.randint(1, most_length)
    head = [width for width in range(1, start) if chance.random() < 0.5]
    divisors = [divisor for divisor in divisors_of(length) if chance.random() < chance.choice([0.1, 0.5, 0.9])]
    chance.shuffle(head)
    return head + head[:2], start, length, divisors + divisors[:1]


def is_told(width, told):
    """Whether the width is a member, by the plainest reading of told."""
    head, start, length, divisors = told
    return width in head if width < start else gcd(width, length) in divisors


def random_sets(seed, many):
    chance = chances(seed)
    for _ in range(many):
        told = random_told(chance)
        yield told, Widths.told(*told)


class TooLargeSets(unittest.TestCase):
    def assertTooLarge(self, action):
        with self.assertRaises(TooLarge) as caught:
            action()
        self.assertEqual(vars(caught.exception), {"what": "length", "most": 5040})


class Forms(TooLargeSets):
    def check(self, widths, form):
        self.assertIs(type(widths), Widths)
        self.assertEqual(form_of(widths), form)
        for part in (widths.head, widths.divisors):
            self.assertEqual((type(part), {type(width) for width in part} | {int}), (tuple, {int}))

    def test_named_sets(self):
        self.check(Widths.every(), ((), 1, 1, (1,)))
        self.check(Widths.none(), ((), 1, 1, ()))
        self.check(Widths.of(3), ((3,), 4, 1, ()))
        self.check(~Widths.of(3), ((1, 2), 4, 1, (1,)))

    def test_of(self):
        self.check(Widths.of(), ((), 1, 1, ()))
        self.check(Widths.of(5, 2, 5, 9), ((2, 5, 9), 10, 1, ()))
        self.check(Widths.of(1000), ((1000,), 1001, 1, ()))
        self.check(Widths.of(*range(1, 1001)), (tuple(range(1, 1001)), 1001, 1, ()))
        for value in no_integers() + [0, -1, 1001, FAR, Word(4, 4), Widths.none()]:
            raised(self, BadWidth, lambda: Widths.of(value), width=value)
            raised(self, BadWidth, lambda: Widths.of(1, 1000, value, 0), width=value)

    def test_from_width(self):
        self.check(Widths.from_width(1), ((), 1, 1, (1,)))
        self.check(Widths.from_width(w=7), ((), 7, 1, (1,)))
        self.check(Widths.from_width(1000), ((), 1000, 1, (1,)))
        for value in no_integers() + [0, -1, 1001, FAR, Word(4, 4)]:
            raised(self, BadWidth, lambda: Widths.from_width(value), width=value)

    def test_multiples(self):
        for k in (1, 2, 6, 97, 5039, 5040):
            self.check(Widths.multiples(k), ((), 1, k, (k,)))
        for value in no_integers() + [0, -1, -FAR, Word(4, 4)]:
            raised(self, BadWidth, lambda: Widths.multiples(value), width=value)
        for k in (5041, 10 ** 6, FAR):
            self.assertTooLarge(lambda: Widths.multiples(k=k))

    def test_dividing(self):
        for q in (1, 3, 7, 9, 5039, 2 ** 61 - 1, 40967):
            order = order_of(q)
            self.check(Widths.dividing(q), ((), 1, order, (order,)))
        for value in no_integers() + [0, -1, -3, 2, 4, 10 ** 30, Word(4, 4)]:
            raised(self, BadWidth, lambda: Widths.dividing(value), width=value)
        for q in (20177, 5051, 10 ** 30 - 1, 10 ** 30 + 1):
            self.assertTooLarge(lambda: Widths.dividing(q=q))

    def test_class_value(self):
        self.assertEqual((Widths.MOST, Widths.none().MOST), (5040, 5040))

    def test_told_members(self):
        for told, widths in random_sets(111, 300):
            for width in range(1, 150):
                self.assertIs(width in widths, is_told(width, told), (told, width))

    def test_the_least_length_and_start(self):
        for told, widths in random_sets(112, 200):
            self.check(widths, self.least_form(told))
            self.assertEqual(widths, Widths.told(*form_of(widths)))

    def least_form(self, told):
        """The form, by trying all starts and lengths."""
        _, start, length, divisors = told
        for least in divisors_of(length):
            classes = {}
            for divisor in divisors_of(length):
                classes.setdefault(gcd(divisor, least), set()).add(divisor in divisors)
            if all(len(kinds) == 1 for kinds in classes.values()):
                break
        kept = tuple(divisor for divisor in sorted(classes) if classes[divisor] == {True})
        while start > 1 and is_told(start - 1, told) == (gcd(start - 1, least) in kept):
            start -= 1
        return tuple(width for width in range(1, start) if is_told(width, told)), start, least, kept

    def test_no_other_length_is_less(self):
        for told, widths in random_sets(113, 60):
            rest = range(200, 200 + 2 * told[2] * 40)
            for length in range(1, widths.length):
                seen = {}
                for width in rest:
                    seen.setdefault(gcd(width, length), set()).add(width in widths)
                self.assertTrue(any(len(kinds) == 2 for kinds in seen.values()))

    def test_told_in_any_order(self):
        made = Widths.told((3, 1, 3), 5, 12, [4, 2, 4])
        self.check(made, ((1, 3), 5, 6, (2,)))
        self.assertEqual(made, Widths.told(head=[1, 3], start=5, length=12, divisors=(2, 4, 2)))
        self.check(Widths.told([], 1, 100000, [1]), ((), 1, 10, (1,)))
        self.check(Widths.told([], 1001, 1, ()), ((), 1, 1, ()))

    def test_told_lengths(self):
        self.check(Widths.told([], 1, 100000, divisors_of(100000)), ((), 1, 1, (1,)))
        self.check(Widths.told([], 3, 10080, [d for d in divisors_of(10080) if d % 5040 == 0]), ((), 1, 5040, (5040,)))
        for length in (5041, 10080, 99999, 100000):
            self.assertTooLarge(lambda: Widths.told([], 1, length, [length]))
        self.check(Widths.told([], 1, 5040, [5040]), ((), 1, 5040, (5040,)))

    def test_told_errors(self):
        for value in no_integers() + [0, -1, 1002, FAR, Word(4, 4)]:
            raised(self, BadWidth, lambda: Widths.told([None], value, None, [None]), width=value)
            if value != 1002:
                raised(self, BadWidth, lambda: Widths.told([None], 5, value, [None]), width=value)
                raised(self, BadWidth, lambda: Widths.told((1, value, None), 5, 100000, [None]), width=value)
                raised(self, BadWidth, lambda: Widths.told([1], 5, 5041 * 3, (1, value, None)), width=value)
        raised(self, BadWidth, lambda: Widths.told([], 1, 100001, []), width=100001)
        raised(self, BadWidth, lambda: Widths.told([4, 5, 6], 5, 1, []), width=5)
        raised(self, BadWidth, lambda: Widths.told([1], 1, 1, []), width=1)
        for divisor in (5, 24, 13):
            raised(self, BadWidth, lambda: Widths.told([], 1, 12, [3, divisor, 7]), width=divisor)
        self.assertTooLarge(lambda: Widths.told([1], 2, 5041, [5041]))


class Members(TooLargeSets):
    def test_any_value(self):
        every = Widths.every()
        for value in no_integers() + [0, -1, -FAR, Word(4, 4), every]:
            for widths in (every, Widths.of(1, 2), ~Widths.of(1)):
                self.assertIs(value in widths, False)
        self.assertIs(FAR in every, True)
        self.assertIs(FAR in Widths.multiples(7), FAR % 7 == 0)

    def test_operations(self):
        chance = chances(114)
        for _ in range(250):
            one, other = random_told(chance), random_told(chance)
            s, t = Widths.told(*one), Widths.told(*other)
            made = {"&": s & t, "|": s | t, "-": s - t, "^": s ^ t, "~": ~s}
            for width in range(1, 130):
                x, y = is_told(width, one), is_told(width, other)
                found = {sign: width in widths for sign, widths in made.items()}
                self.assertEqual(found, {"&": x and y, "|": x or y, "-": x and not y, "^": x != y, "~": not x})
            for widths in made.values():
                self.assertEqual(Widths.told(*form_of(widths)), widths)
                self.assertEqual(form_of(Widths.told(*form_of(widths))), form_of(widths))
            self.assertEqual((s | t) - (s & t), s ^ t)
            self.assertEqual([s ^ s, s - s, s & ~s, s | ~s, ~~s], [Widths.none()] * 3 + [Widths.every(), s])
            self.assertEqual((form_of(s), form_of(t)), (form_of(Widths.told(*one)), form_of(Widths.told(*other))))

    def test_in_place(self):
        widths = other = Widths.multiples(2)
        widths &= Widths.multiples(3)
        self.assertEqual(widths, Widths.multiples(6))
        widths |= Widths.of(1)
        widths ^= Widths.of(1, 6)
        widths -= Widths.multiples(12)
        self.assertEqual(form_of(widths), form_of(Widths.told([], 7, 12, [6])))
        self.assertEqual(other, Widths.multiples(2))

    def test_comparisons(self):
        chance = chances(115)
        for _ in range(300):
            one, other = random_told(chance, 5, 12), random_told(chance, 5, 12)
            s, t = Widths.told(*one), Widths.told(*other)
            if chance.random() < 0.5:
                t = s | t
            ones = {width for width in range(1, 200) if width in s}
            others = {width for width in range(1, 200) if width in t}
            self.assertEqual([s <= t, s < t, s >= t, s > t, s == t, s != t], [
                ones <= others, ones < others, ones >= others, ones > others, ones == others, ones != others,
            ])
            self.assertEqual([type(answer) for answer in (s <= t, s < t, s >= t, s > t, s == t)], [bool] * 5)
            parted = s.parted(t)
            self.assertEqual(parted, min(ones ^ others, default=None))

    def test_equal_to_any_value(self):
        for value in no_integers() + [0, 1, (), ((), 1, 1, ()), "- | 1 | 1 | -", Word(4, 4), Widths]:
            if not isinstance(value, Widths):
                self.assertIs(Widths.none() == value, False)
                self.assertIs(value == Widths.every(), False)
        self.assertIs(Widths.of(1, 2) == Widths.told([2, 1], 9, 6, []), True)

    def test_truth_and_is_finite(self):
        for told, widths in random_sets(116, 100):
            members = [width for width in range(1, 400) if width in widths]
            self.assertIs(bool(widths), bool(members))
            self.assertIs(widths.is_finite, not [width for width in members if width > 50])
        self.assertEqual([bool(Widths.none()), bool(Widths.of(7)), bool(Widths.multiples(5040))], [False, True, True])

    def test_long_lengths(self):
        one, other = Widths.multiples(5039), Widths.multiples(5040)
        for action in (lambda: one | other, lambda: one & other, lambda: one ^ other, lambda: one - other):
            self.assertTooLarge(action)
        self.assertEqual([one <= other, one < other, one >= other, one > other, one == other], [False] * 5)
        self.assertEqual([one.parted(other), other.parted(one), one.parted(one)], [5039, 5039, None])
        self.assertEqual([one ^ one, one - one, other & other, one | one], [Widths.none(), Widths.none(), other, one])
        self.assertEqual(one & Widths.of(39, 1000), Widths.none())
        self.assertEqual((~one & ~one).length, 5039)
        self.assertEqual(one.parted(Widths.none()), 5039)
        far = Widths.told([], 1001, 5040, [5040])
        self.assertEqual(far.parted(Widths.told([], 1001, 5039, [5039])), 5039)

    def test_lengths_whose_multiple_is_far_above(self):
        """The common multiple is above 5,040, what comes out is not."""
        one, other = Widths.multiples(64) | Widths.multiples(63), Widths.multiples(64) | Widths.multiples(65)
        self.assertEqual([one.length, other.length, lcm(one.length, other.length)], [4032, 4160, 64 * 63 * 65])
        self.assertTooLarge(lambda: one | other)
        both = Widths.multiples(64)
        self.assertEqual([both <= one, both < other, one >= both, one <= other], [True, True, True, False])
        self.assertEqual(one - (one - both), both)
        self.assertEqual([(one & both) | both, one.parted(other)], [both, 63])
        self.assertEqual((Widths.multiples(4032) | Widths.multiples(64)), both)
        self.assertTooLarge(lambda: Widths.multiples(71) & Widths.multiples(73))
        self.assertTooLarge(lambda: ~(Widths.multiples(71) | Widths.multiples(73)))
        self.assertEqual(Widths.of(5) & Widths.multiples(5039), Widths.none())
        self.assertEqual((Widths.multiples(5039) - Widths.multiples(5039)) | Widths.multiples(5040), Widths.multiples(5040))


class Asked(unittest.TestCase):
    def test_least(self):
        for told, widths in random_sets(117, 150):
            members = [width for width in range(1, 300) if is_told(width, told)]
            for start in range(1, 80):
                wanted = next((width for width in members if width >= start), None)
                self.assertEqual(widths.least(start), wanted)
            self.assertEqual(widths.least(), next(iter(members), None))
            found = widths.least(start=FAR - 7)
            wanted = next((FAR - 7 + k for k in range(told[2]) if is_told(FAR - 7 + k, told)), None)
            self.assertEqual(found, wanted)

    def test_up_to_and_kth(self):
        for told, widths in random_sets(118, 150):
            members = [width for width in range(1, 300) if is_told(width, told)]
            for n in range(0, 120):
                self.assertEqual(widths.up_to(n), len([width for width in members if width <= n]))
            for k in range(6):
                self.assertEqual(widths.kth(k), members[k] if k < len(members) else None)
            if not widths.is_finite:
                self.check_far(widths)
            else:
                self.assertEqual([widths.up_to(FAR), widths.kth(FAR)], [len(members), None])

    def check_far(self, widths):
        for k in (10 ** 9, FAR - 3, FAR):
            member = widths.kth(k)
            self.assertIn(member, widths)
            self.assertEqual(widths.up_to(member), k + 1)
            self.assertEqual(widths.up_to(member - 1), k)

    def test_far_numbers(self):
        self.assertEqual([Widths.multiples(6).up_to(FAR), Widths.multiples(6).kth(FAR)], [FAR // 6, 6 * (FAR + 1)])
        self.assertEqual(Widths.multiples(5040).kth(FAR), 5040 * (FAR + 1))
        self.assertEqual([Widths.every().up_to(FAR), Widths.none().up_to(FAR), Widths.of(2, 9).kth(1)], [FAR, 0, 9])

    def test_first_and_walk(self):
        for told, widths in random_sets(119, 150):
            members = [width for width in range(1, 400) if is_told(width, told)]
            for n in (0, 1, 2, 5, len(widths.head), len(widths.head) + 1):
                self.assertEqual(widths.first(n), (members if widths.is_finite else members[:n])[:n])
            self.assertEqual(list(islice(widths.walk(), 9)), members[:9])
        self.assertEqual(Widths.multiples(5).first(1000), [5 * k for k in range(1, 1001)])
        self.assertEqual(Widths.of(3, 1).first(1000), [1, 3])
        self.assertEqual([list(Widths.none().walk()), list(Widths.of(9, 2).walk())], [[], [2, 9]])
        self.assertEqual(list(islice(Widths.every().walk(), 3000))[-1], 3000)
        widths = Widths.of(1, 2)
        widths.first(5).clear()
        self.assertEqual(widths.first(5), [1, 2])

    def test_density(self):
        for told, widths in random_sets(120, 150):
            p, q = widths.density
            self.assertEqual(gcd(p, q), 1)
            successive = range(widths.start + 17, widths.start + 17 + widths.length)
            self.assertEqual(p * widths.length, q * len([width for width in successive if width in widths]))
        self.assertEqual([Widths.none().density, Widths.of(4).density, Widths.every().density], [(0, 1), (0, 1), (1, 1)])
        self.assertEqual(Widths.multiples(5040).density, (1, 5040))

    def test_errors(self):
        widths = Widths.multiples(3)
        wrong = no_integers() + [-1, -FAR, Word(4, 4), widths]
        for value in wrong + [0]:
            raised(self, BadWidth, lambda: widths.least(value), width=value)
        for value in wrong:
            raised(self, BadWidth, lambda: widths.up_to(value), width=value)
            raised(self, BadWidth, lambda: widths.kth(value), width=value)
        for value in wrong + [1001, FAR]:
            raised(self, BadWidth, lambda: widths.first(value), width=value)
            raised(self, BadWidth, lambda: Widths.none().first(value), width=value)
        self.assertEqual([widths.up_to(n=0), widths.kth(k=0), widths.first(n=0), widths.parted(t=widths)], [0, 3, [], None])


class Texts(unittest.TestCase):
    def refused(self, text):
        raised(self, BadWidths, lambda: Widths.read(text), text=text)

    def test_texts(self):
        for told, widths in random_sets(121, 150):
            parts = [" ".join(str(width) for width in part) or "-" for part in (widths.head, widths.divisors)]
            self.assertEqual(str(widths), f"{parts[0]} | {widths.start} | {widths.length} | {parts[1]}")
            self.assertEqual(Widths.read(str(widths)), widths)
        for widths in (Widths.of(*range(1, 1001, 2)), Widths.of(*range(1, 1001)), ~Widths.multiples(5040)):
            self.assertEqual(Widths.read(text=str(widths)), widths)

    def test_told_texts_that_are_no_forms(self):
        for told, widths in random_sets(122, 300):
            head, start, length, divisors = told
            parts = [" ".join(map(str, part)) or "-" for part in (sorted(set(head)), sorted(set(divisors)))]
            text = f"{parts[0]} | {start} | {length} | {parts[1]}"
            if text != str(widths):
                self.refused(text)

    def test_spoiled_texts(self):
        for widths in (Widths.none(), Widths.of(3, 10), ~Widths.of(2), Widths.multiples(6), Widths.told([1], 3, 4, [1, 4])):
            text = str(widths)
            for at in range(len(text) + 1):
                for other in "", " ", "0", "1", "3", "|", "-", "x", "\n", "+":
                    for spoiled in (text[:at] + other + text[at + 1:], text[:at] + other + text[at:]):
                        self.read_or_refused(spoiled)

    def read_or_refused(self, text):
        try:
            widths = Widths.read(text)
        except BadWidths as error:
            self.assertIs(error.text, text)
            return
        self.assertEqual(str(widths), text)

    def test_bad_texts(self):
        for text in (
            "", " ", "-", "- | 1 | 1", "- | 1 | 1 | - | -", "-|1|1|-", "- |1 | 1 | -", "1 | 1 | 1 | -", "- | 2 | 1 | -",
            "- | 1 | 2 | -", "- | 1 | 2 | 1 2", "- | 1 | 1 | 1 1", "2 1 | 4 | 1 | -", "1 1 | 2 | 1 | -", "- | 0 | 1 | -",
            "- | - | 1 | -", "- | 1 | - | -", "- | 1 | 1 | 2", "- | 01 | 1 | -", "- | 1 | 1 | -\n", " - | 1 | 1 | -",
            "1  2 | 4 | 1 | 1", "1,2 | 4 | 1 | 1", "- | 1 | 5041 | 5041", "- | 1002 | 1 | 1", "+1 | 2 | 1 | -", "\u0661 | 2 | 1 | -",
            "1001 | 1002 | 1 | -", "- | 1 1 | 1 | -", "- | 1 | 1 1 | -", " | 1 | 1 | -", "- | 1 | 1 | ", "1 - | 2 | 1 | -",
            "9" * 2000, "- | " * 400, "- | 1 | " + "9" * 1500 + " | -", "1 | 2 | 1 | " + "9" * 5000, "None | 1 | 1 | -",
        ):
            self.refused(text)
        self.assertEqual(str(Widths.read("1 | 2 | 1 | -")), "1 | 2 | 1 | -")

    def test_any_value(self):
        for value in no_integers() + [0, 1, Widths.none(), ((), 1, 1, ()), b"- | 1 | 1 | -", Word(4, 4)]:
            self.refused(value)


if __name__ == "__main__":
    unittest.main()
