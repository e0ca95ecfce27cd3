import itertools
import unittest

from tests.played import all_words
from tests.ringed import fits, random_ring, ring_of, total_of
from tests.trees import chances
from tests.values import no_integers, raised
from twozeros.errors import NoWord, TooLarge
from twozeros.formulas import named
from twozeros.renewing import least_mend, mends, renewed, right, right_rows
from twozeros.rings import Ring
from twozeros.sayings import follows
from twozeros.tables import always
from twozeros.widthsets import Widths
from twozeros.words import Word

LAYERED = Ring(("s", "t"), [("c", (("s", 1), ("d", 1))), ("d", (("t", 2),))])
ROUND = Ring(("s",), [("c", (("s", 1), ("d", 1))), ("d", (("c", 1),))])
EXAMPLE = Ring(("s",), [("c", (("s", 1), ("c", 2)))])


def names_of(told):
    return [*told[0], *[check for check, _ in told[1]]]


def renewed_by_hand(told, row, width, words):
    """The words behind the row, renewed one after another."""
    words = dict(words)
    for check in row:
        words[check] = 2 ** width - 1 - total_of(told[1], check, width, words)
    return words


def right_by_hand(told, row, width):
    return all(fits(told, width, renewed_by_hand(told, row, width, words)) for words in all_words(names_of(told), width))


def mends_by_hand(told, content, row, width):
    for words in all_words(names_of(told), width):
        if fits(told, width, words):
            for value in range(2 ** width):
                if not fits(told, width, renewed_by_hand(told, row, width, {**words, content: value})):
                    return False
    return True


def rows_of(checks, most):
    """All rows with no check twice and of at most this length, the shorter ones first."""
    return [row for many in range(most + 1) for row in itertools.permutations(sorted(checks), many)]


def told_of(ring):
    return ring.contents, ring.covers, ring.summed


class Renewed(unittest.TestCase):
    def test_written_forms(self):
        ring = Ring(("s", "t"), [("c", (("s", 1), ("c", 2))), ("d", (("c", 1), ("t", 3)))], summed=("d",))
        for row, texts in (
            ((), ("c", "d")), (("c",), ("~(s + 2 * c)", "d")), (("d",), ("c", "~(c + 3 * t)")),
            (("c", "c"), ("~(s + 2 * ~(s + 2 * c))", "d")), (("c", "d"), ("~(s + 2 * c)", "~(~(s + 2 * c) + 3 * t)")),
            (("d", "c"), ("~(s + 2 * c)", "~(c + 3 * t)")), (("d", "d"), ("c", "~(c + 3 * t)")),
            (("c", "d", "c", "d"), ("~(s + 2 * ~(s + 2 * c))", "~(~(s + 2 * ~(s + 2 * c)) + 3 * t)")),
        ):
            found = renewed(ring, *row)
            self.assertEqual({name: str(formula) for name, formula in found.items()}, dict(zip("cd", texts)))

    def test_against_renewing_by_hand(self):
        chance = chances(61)
        made = 0
        for _ in range(150):
            told = random_ring(chance)
            row = [chance.choice(names_of(told)[len(told[0]):]) for _ in range(chance.randint(0, 4))]
            try:
                found = renewed(ring_of(told), *row)
            except TooLarge as error:
                self.assertEqual(vars(error), {"what": "size", "most": 60})
                continue
            made += 1
            self.assertEqual(sorted(found), sorted(check for check, _ in told[1]))
            for width in (1, 2, 3, 64):
                words = {name: chance.choice((0, 2 ** width - 1, chance.randrange(2 ** width))) for name in names_of(told)}
                behind = renewed_by_hand(told, row, width, words)
                for check, formula in found.items():
                    self.assertEqual(formula.value_at(width, words), Word(width, behind[check]))
        self.assertGreater(made, 100)

    def test_errors_in_their_order(self):
        covers = [(check, tuple((name, 2) for name in "stcde")) for check in "cde"]
        large = Ring(tuple("st"), covers)
        asked = [lambda *row: renewed(large, *row), lambda *row: right(large, *row), lambda *row: mends(large, "s", *row)]
        for value in no_integers() + [0, "s", "t", "C", ("c",), Word(4, 3)]:
            for ask in asked:
                raised(self, NoWord, lambda: ask(value), name=value)
                raised(self, NoWord, lambda: ask("c", "c", "c", "c", "c", value, None), name=value)
        for ask in asked:
            raised(self, TooLarge, lambda: ask("c", "c", "c", "c", "c"), what="renewings", most=4)
            raised(self, TooLarge, lambda: ask(*["d"] * 5), what="renewings", most=4)
            raised(self, TooLarge, lambda: ask("c", "d", "c", "d"), what="size", most=60)
        # Each total has 14 parts, of which the checks are replaced.
        self.assertEqual([renewed(large, *["c"] * many)["c"].size for many in range(5)], [1, 15, 29, 43, 57])
        self.assertEqual(renewed(large, "c", "d", "c")["c"].size, 15 + 14 + 28)

    def test_the_dict_is_new(self):
        renewed(EXAMPLE)["c"] = None
        self.assertEqual(renewed(EXAMPLE), {"c": named("c")})


class RightAndMends(unittest.TestCase):
    def test_told_by_sayings(self):
        for ring in (LAYERED, EXAMPLE, ROUND):
            f = ring.fits
            for row in rows_of(ring.checks, 2) + [("c", "c")]:
                self.assertEqual(right(ring, *row), always(f.replaced(renewed(ring, *row))))
                for content in ring.contents:
                    new = {content: named("n")}
                    behind = {check: formula.replaced(new) for check, formula in renewed(ring, *row).items()}
                    g = f.replaced({**behind, **new})
                    self.assertEqual(mends(ring, content, *row), always(follows(f, g)))
                    self.assertEqual(type(mends(ring, content, *row)), Widths)

    def test_random_rings_against_all_words(self):
        chance = chances(62)
        made = 0
        for _ in range(70):
            told = random_ring(chance, 2, 2)
            ring = ring_of(told)
            row = [chance.choice(ring.checks) for _ in range(chance.randint(0, 3))]
            content = chance.choice(told[0])
            try:
                found, mended = right(ring, *row), mends(ring, content, *row)
            except TooLarge:
                continue
            made += 1
            for width in (1, 2, 3) if len(names_of(told)) < 4 else (1, 2):
                self.assertIs(width in found, right_by_hand(told, row, width), (told, row, width))
                self.assertIs(width in mended, mends_by_hand(told, content, row, width), (told, row, width))
        self.assertGreater(made, 40)

    def test_three_checks_against_all_words(self):
        chance = chances(63)
        made = 0
        for _ in range(60):
            told = random_ring(chance, 1, 3)
            ring = ring_of(told)
            row = [chance.choice(ring.checks) for _ in range(chance.randint(1, 4))]
            try:
                found, mended = right(ring, *row), mends(ring, "s", *row)
            except TooLarge:
                continue
            made += 1
            for width in (1, 2):
                self.assertIs(width in found, right_by_hand(told, row, width), (told, row, width))
                self.assertIs(width in mended, mends_by_hand(told, "s", row, width), (told, row, width))
        self.assertGreater(made, 20)

    def test_widths(self):
        # A check that covers itself twice: what was 0 or FULL matters; and at the width 1 all is short.
        ring = Ring(("s",), [("c", (("s", 2), ("c", 9)))])
        for row in ((), ("c",), ("c", "c")):
            for width in (1, 2, 3, 4):
                self.assertIs(width in right(ring, *row), right_by_hand(told_of(ring), row, width))
                self.assertIs(width in mends(ring, "s", *row), mends_by_hand(told_of(ring), "s", row, width))

    def test_any_names(self):
        for content, check in itertools.permutations("abcdefg", 2):
            ring = Ring((content,), [(check, ((content, 1),))])
            self.assertEqual((mends(ring, content, check), mends(ring, content)), (Widths.every(), Widths.none()))
            self.assertEqual(least_mend(ring, content), (check,))

    def test_no_content(self):
        for content in no_integers() + [0, "c", "d", "u", "S", Word(4, 3)]:
            raised(self, NoWord, lambda: mends(LAYERED, content), name=content)
            raised(self, NoWord, lambda: mends(LAYERED, content, None), name=content)
            raised(self, NoWord, lambda: mends(LAYERED, content, *["c"] * 5), name=content)
            raised(self, NoWord, lambda: least_mend(LAYERED, content), name=content)

    def test_sayings_that_are_too_large(self):
        for contents, covers, summed, row, what, most in (
            ("s", (("c", (("e", 8), ("d", 3))), ("d", (("e", 2), ("d", 2), ("c", 1))), ("e", (("c", 8), ("s", 2)))), (),
             "ecd", "forms", 8),
            ("st", (("c", (("s", 8),)), ("d", (("t", 3), ("c", 1), ("s", 9), ("e", 1))),
                    ("e", (("e", 8), ("c", 3), ("t", 1), ("d", 1), ("s", 2)))), ("e",), "cde", "size", 60),
            ("st", (("c", (("s", 9),)), ("d", (("t", 1), ("d", 9), ("e", 8), ("s", 8), ("c", 1))),
                    ("e", (("s", 1), ("d", 9), ("t", 1), ("e", 1), ("c", 9)))), (), "dec", "systems", 500),
            ("s", (("c", (("s", 1), ("d", 1), ("e", 8), ("c", 1))), ("d", (("c", 8), ("d", 9), ("e", 3))), ("e", (("s", 1),))),
             ("c", "e"), "cde", "length", 5040),
            ("st", (("c", (("e", 8), ("d", 9), ("c", 9))), ("d", (("d", 8), ("e", 9), ("t", 2), ("s", 3))), ("e", (("s", 8),))),
             ("c",), "ecd", "number", 1000),
        ):
            ring = Ring(tuple(contents), covers, summed=summed)
            raised(self, TooLarge, lambda: right(ring, *row), what=what, most=most)
            with self.assertRaises(TooLarge):
                mends(ring, "s", *row)

    def test_sizes_of_sayings(self):
        # Two totals of 57 parts each fit a formula, but the sayings of both are too large together.
        covers = [(check, tuple((name, 2) for name in "stcde")) for check in "cde"]
        ring = Ring(("s", "t"), covers)
        self.assertEqual(renewed(ring, "c", "c", "c")["c"].size, 43)
        raised(self, TooLarge, lambda: right(ring, "c", "c", "c"), what="size", most=150)
        raised(self, TooLarge, lambda: mends(ring, "s", "c", "c", "c"), what="size", most=150)
        raised(self, TooLarge, lambda: right(ring, "c", "c", "c", "c"), what="size", most=60)
        raised(self, TooLarge, lambda: mends(ring, "s", "c", "c", "c", "c"), what="size", most=60)
        # Both sayings fit, but not one behind the other.
        self.assertEqual(ring.fits.replaced(renewed(ring, "c")).size, 15 + 29 + 1 + 2 * (1 + 29 + 1) + 2)
        raised(self, TooLarge, lambda: mends(ring, "s", "c"), what="size", most=150)


class RightRows(unittest.TestCase):
    def test_layers(self):
        self.assertEqual(list(right_rows(LAYERED)), [("d", "c")])
        flat = Ring(("s",), [(check, (("s", 1),)) for check in "edc"])
        self.assertEqual(list(right_rows(flat)), list(itertools.permutations("cde")))
        self.assertEqual(list(right_rows(Ring(("s",), [("c", (("s", 1),))]))), [("c",)])
        tree = Ring(("s",), [("c", (("d", 1), ("e", 1))), ("d", (("s", 1),)), ("e", (("s", 9),))], summed=("c",))
        self.assertEqual(list(right_rows(ring=tree)), [("d", "e", "c"), ("e", "d", "c")])

    def test_nothing_is_too_large_with_layers(self):
        covers = [
            ("e", (("s", 8),)), ("d", (("s", 8), ("e", 9), ("t", 5))), ("c", (("t", 8), ("e", 6), ("s", 9), ("d", 7))),
        ]
        ring = Ring(("s", "t"), covers)
        raised(self, TooLarge, lambda: right(ring, "c", "d", "e"), what="length", most=5040)
        self.assertEqual(list(right_rows(ring)), [("e", "d", "c")])

    def test_against_right(self):
        chance = chances(65)
        layered = others = 0
        for _ in range(150):
            told = random_ring(chance, 2, 2)
            ring = ring_of(told)
            try:
                wanted = [row for row in itertools.permutations(sorted(ring.checks)) if right(ring, *row) == Widths.every()]
            except TooLarge:
                continue
            if ring.layers is None:
                others += 1
            else:
                layered += 1
            self.assertEqual(list(right_rows(ring)), wanted)
        self.assertGreater(min(layered, others), 20)

    def test_rings_without_layers(self):
        # What is renewed last is not covered by the others, so it is right, but for checks that cover themselves.
        self.assertIsNone(ROUND.layers)
        self.assertEqual(list(right_rows(ROUND)), [])
        self.assertEqual(list(right_rows(EXAMPLE)), [])

    def test_longer_rows(self):
        ring = Ring(("s",), [("c", (("d", 1),)), ("d", (("s", 1),))])
        self.assertEqual(right(ring, "d", "c", "d"), Widths.every())
        self.assertEqual(right(ring, "d", "c"), Widths.every())
        self.assertFalse(right(ring, "c", "d") == Widths.every())

    def test_errors_when_the_iteration_begins(self):
        contents = tuple("st")
        covers = [(check, tuple((name, 2) for name in "stcde")) for check in "cde"]
        rows = right_rows(Ring(contents, covers))
        raised(self, TooLarge, lambda: next(rows), what="size", most=60)
        # Of the rows c, d and d, c the later one alone is too large; nothing is told ahead of that.
        ring = Ring(("s",), [("c", (("d", 8), ("s", 2))), ("d", (("s", 3), ("d", 9), ("c", 8)))], summed=("c",))
        self.assertEqual(type(right(ring, "c", "d")), Widths)
        raised(self, TooLarge, lambda: right(ring, "d", "c"), what="length", most=5040)
        later = right_rows(ring)
        raised(self, TooLarge, lambda: next(later), what="length", most=5040)


class LeastMend(unittest.TestCase):
    def test_layers(self):
        self.assertEqual((least_mend(LAYERED, "s"), least_mend(LAYERED, "t")), (("c",), ("d", "c")))
        self.assertEqual(least_mend(ring=EXAMPLE, content="s"), None)

    def test_a_content_that_is_in_no_cover(self):
        ring = Ring(("s", "t"), [("c", (("t", 1),)), ("d", (("d", 1),))])
        self.assertEqual(least_mend(ring, "s"), ())
        self.assertEqual(right(ring), Widths.none())

    def test_a_ring_that_never_fits(self):
        # ~c is c for no c; but s is covered, too, and no row would mend it.
        never = Ring(("s",), [("c", (("c", 1),)), ("d", (("s", 1), ("d", 1)))])
        self.assertEqual(always(~never.fits), Widths.every())
        self.assertEqual(least_mend(never, "s"), ())
        told = Ring(("s",), [("d", (("s", 1), ("d", 1)))])
        self.assertEqual(least_mend(told, "s"), None)

    def test_against_mends(self):
        chance = chances(66)
        seen = {}
        for _ in range(80):
            told = random_ring(chance, 2, 2)
            ring = ring_of(told)
            content = chance.choice(told[0])
            wanted = None
            try:
                for row in rows_of(ring.checks, 2):
                    if mends(ring, content, *row) == Widths.every():
                        wanted = row
                        break
            except TooLarge as error:
                told = vars(error)
                raised(self, TooLarge, lambda: least_mend(ring, content), **told)
                continue
            self.assertEqual(least_mend(ring, content), wanted)
            seen[None if wanted is None else len(wanted)] = True
        self.assertTrue({None, 0, 1, 2} <= set(seen), seen)

    def test_three_checks(self):
        ring = Ring(("s",), [("e", (("s", 1),)), ("d", (("s", 1),)), ("c", (("s", 1),))])
        self.assertEqual(least_mend(ring, "s"), ("c", "d", "e"))
        ring = Ring(("s",), [("c", (("d", 1),)), ("d", (("s", 1),)), ("e", (("s", 1),))])
        self.assertEqual(least_mend(ring, "s"), ("d", "c", "e"))

    def test_a_row_ahead_of_the_answer_that_is_too_large(self):
        ring = Ring(("s",), [("c", (("d", 1),)), ("d", (("e", 1),)), ("e", (("s", 1),))])
        raised(self, TooLarge, lambda: mends(ring, "s", "d"), what="forms", most=8)
        raised(self, TooLarge, lambda: least_mend(ring, "s"), what="forms", most=8)


if __name__ == "__main__":
    unittest.main()
