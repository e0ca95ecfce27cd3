import itertools
import unittest

from tests.ringed import all_fillings, fits, random_ring, ring_of, total_of
from tests.trees import chances
from tests.values import no_integers, raised
from twozeros.counts import count
from twozeros.errors import BadRing, BadWidth, BadWord, NoWord, TooLarge
from twozeros.formulas import Formula, named
from twozeros.rings import Ring, exact, fillings, fills, unique
from twozeros.sayings import Saying, all_of, is_full, same
from twozeros.tables import sometimes, table
from twozeros.widthsets import Widths
from twozeros.words import Word

RIGHT = ("c", (("s", 1),))
EXAMPLE = Ring(("s",), [("c", (("s", 1), ("c", 2)))])


class Made(unittest.TestCase):
    def test_attributes(self):
        covers = (("c", (("s", 1), ("t", 9), ("d", 2))), ("d", (("d", 3),)))
        for ring in (Ring(("s", "t"), covers, summed=("d",)), Ring(("s", "t"), list(covers), summed=("d",)),
                     Ring(contents=("s", "t"), covers=covers, summed=("d",))):
            self.assertEqual((ring.contents, ring.checks, ring.covers, ring.summed), (("s", "t"), ("c", "d"), covers, ("d",)))
            for part in (ring.contents, ring.checks, ring.covers, ring.summed):
                self.assertIs(type(part), tuple)
        self.assertEqual(Ring(("s",), [RIGHT]).summed, ())
        self.assertEqual(Ring(tuple("stuv"), [RIGHT]).contents, tuple("stuv"))
        with self.assertRaises(TypeError):
            Ring(("s",), [RIGHT], ("c",))

    def test_a_list_that_is_passed_stays(self):
        covers = [RIGHT]
        ring = Ring(("s",), covers)
        covers.append(("d", (("s", 1),)))
        self.assertEqual(ring.covers, (RIGHT,))

    def test_sums_wishes_and_fits(self):
        covers = (("c", (("s", 1), ("t", 9), ("d", 2), ("c", 1))), ("d", (("d", 3),)), ("e", (("t", 1),)))
        ring = Ring(("s", "t"), covers, summed=("d", "e"))
        self.assertEqual([str(ring.sum_of(check)) for check in "cde"], ["s + 9 * t + 2 * d + c", "3 * d", "t"])
        wishes = ["same(c, ~(s + 9 * t + 2 * d + c))", "isfull(3 * d + d)", "isfull(t + e)"]
        self.assertEqual([str(ring.wish(check)) for check in "cde"], wishes)
        self.assertEqual(str(ring.fits), " & ".join(wishes))
        self.assertEqual(str(EXAMPLE.wish("c")), "same(c, ~(s + 2 * c))")
        self.assertEqual(EXAMPLE.fits, EXAMPLE.wish("c"))
        self.assertEqual(str(Ring(("s",), [("c", (("s", 9), ("c", 1)))]).sum_of(check="c")), "9 * s + c")

    def test_made_as_told(self):
        chance = chances(51)
        for _ in range(200):
            told = random_ring(chance)
            ring = ring_of(told)
            wishes = []
            for check, cover in told[1]:
                parts = [named(name) if times == 1 else times * named(name) for name, times in cover]
                total = parts[0]
                for part in parts[1:]:
                    total = total + part
                self.assertEqual(ring.sum_of(check), total)
                wish = is_full(total + named(check)) if check in told[2] else same(named(check), ~total)
                self.assertEqual(ring.wish(check=check), wish)
                wishes.append(wish)
            self.assertEqual(ring.fits, all_of(*wishes))

    def test_no_check(self):
        for check in no_integers() + [0, "s", "d", "C", RIGHT, Word(4, 3)]:
            raised(self, NoWord, lambda: EXAMPLE.sum_of(check), name=check)
            raised(self, NoWord, lambda: EXAMPLE.wish(check), name=check)

    def test_layers(self):
        for covers, layers in (
            ([("c", (("s", 1),))], (("c",),)), ([("c", (("s", 1), ("c", 1)))], None),
            ([("c", (("d", 1),)), ("d", (("s", 1),))], (("d",), ("c",))), ([("c", (("d", 1),)), ("d", (("c", 1),))], None),
            ([("c", (("s", 1),)), ("d", (("s", 2),)), ("e", (("s", 3),))], (("c", "d", "e"),)),
            ([("e", (("s", 1),)), ("d", (("s", 2),)), ("c", (("s", 3),))], (("e", "d", "c"),)),
            ([("c", (("e", 1),)), ("d", (("s", 1),)), ("e", (("s", 1),))], (("d", "e"), ("c",))),
            ([("c", (("d", 1), ("e", 1))), ("d", (("e", 1),)), ("e", (("s", 1),))], (("e",), ("d",), ("c",))),
            ([("c", (("s", 1),)), ("d", (("c", 1),)), ("e", (("c", 2), ("s", 1)))], (("c",), ("d", "e"))),
            ([("c", (("d", 1),)), ("d", (("e", 1),)), ("e", (("c", 1),))], None),
            ([("c", (("s", 1),)), ("d", (("e", 1),)), ("e", (("d", 1),))], None),
            ([("c", (("d", 1),)), ("d", (("s", 1),)), ("e", (("c", 1), ("e", 9)))], None),
        ):
            self.assertEqual(Ring(("s",), covers).layers, layers)
            self.assertEqual(Ring(("s",), covers, summed=("c",)).layers, layers)

    def test_equal(self):
        covers = [("c", (("s", 1), ("d", 2))), ("d", (("t", 1),))]
        ring = Ring(("s", "t"), covers, summed=("c", "d"))
        self.assertTrue(ring == Ring(("s", "t"), tuple(covers), summed=("c", "d")))
        for other in (
            Ring(("t", "s"), covers, summed=("c", "d")), Ring(("s", "t"), covers[::-1], summed=("c", "d")),
            Ring(("s", "t"), covers, summed=("d", "c")), Ring(("s", "t"), covers, summed=("c",)), Ring(("s", "t"), covers),
            Ring(("s", "t"), [("c", (("d", 2), ("s", 1))), covers[1]], summed=("c", "d")), EXAMPLE,
            Ring(("s", "t"), [("c", (("s", 1), ("d", 3))), covers[1]], summed=("c", "d")), Ring(("s", "t", "u"), covers, summed=("c", "d")),
        ):
            self.assertFalse(ring == other)
            self.assertTrue(ring != other)
        for value in no_integers() + [0, 1, "s", (ring.contents, ring.covers), Ring]:
            self.assertIs(ring == value, False)
            self.assertIs(value == ring, False)


class Wrong(unittest.TestCase):
    def wrong(self, contents, covers, summed, part, at):
        raised(self, BadRing, lambda: Ring(contents, covers, summed=summed), part=part, at=at)

    def test_contents(self):
        for contents in no_integers() + [0, "s", ["s"], (), {"s": 1}, Word(4, 3)]:
            if not isinstance(contents, tuple) or not contents:
                self.wrong(contents, None, None, "contents", 0)
                self.wrong(contents, [RIGHT], (), "contents", 0)
        for value in no_integers() + [0, "", "S", "full", "yes", "abcdefg", ("s",), "t"]:
            if value not in ("word",):
                self.wrong(("s", "t", value, None), None, None, "contents", 2)
                self.wrong(("s", "t", value), [RIGHT], (), "contents", 2)
        self.wrong((None,), [RIGHT], (), "contents", 0)
        self.wrong(tuple("stuvwxs"), [RIGHT], (), "contents", 6)

    def test_covers(self):
        many = [(check, (("s", 1),)) for check in "cdef"]
        for covers in no_integers() + [0, "c", [], (), many, tuple(many), {"c": (("s", 1),)}]:
            if not isinstance(covers, (list, tuple)) or not 1 <= len(covers) <= 3:
                self.wrong(("s",), covers, None, "covers", 0)
        wrong = [
            (), ("d",), ["d", (("s", 1),)], ("d", (("s", 1),), 0), ("s", (("s", 1),)), ("t", (("s", 1),)), ("c", (("s", 1),)),
            ("full", (("s", 1),)), ("", (("s", 1),)), (None, (("s", 1),)), (named("d"), (("s", 1),)), (3, ()), "de",
        ]
        for pair in wrong + [0] + [value for value in no_integers() if value != (1, 2)] + [(1, 2)]:
            # What a check covers is looked at behind all names.
            for covers in ([("c", None), pair, ("e", None)], [("c", ()), pair, None], (("c", 3), pair)):
                self.wrong(("s", "t"), covers, None, "covers", 1)
        self.wrong(tuple("stuvwx"), [RIGHT, None], None, "covers", 1)

    def test_too_many_names(self):
        for contents, checks in (("stuvw", "c"), ("stuv", "cd"), ("stu", "cde"), ("stuvwxyz", "cde")):
            covers = [(check, None) for check in checks]
            self.wrong(tuple(contents), covers, None, "names", len(contents) + len(checks))
        for contents, checks in (("stuv", "c"), ("stu", "cd"), ("st", "cde")):
            self.assertEqual(Ring(tuple(contents), [(check, (("s", 1),)) for check in checks]).checks, tuple(checks))

    def test_totals(self):
        wrong = [
            (), [("s", 1)], (("s", 1), ["t", 1]), (("s", 1, 1),), (("s",),), ("s",), (("x", 1),), (("s", 0),), (("s", 10),),
            (("s", -1),), (("s", True),), (("s", None),), (("s", "1"),), (("s", 1), ("s", 2)), (("c", 1), ("s", 1), ("c", 1)),
            ((None, 1),), ((["s"], 1),), ((named("s"), 1),), (("s", Word(4, 1)),), (("s", 1), None), (("s", 1), ("d", 10 ** 30)),
            "s", {"s": 1},
        ]
        for cover in wrong + no_integers() + [0, 1]:
            if cover != (None, "a"):
                for covers, at in (([("c", cover), ("d", None)], 0), ([RIGHT, ("d", cover)], 1), ([RIGHT, ("d", (("d", 1),)), ("e", cover)], 2)):
                    self.wrong(("s", "t"), covers, None, "total", at)
        for times in range(1, 10):
            self.assertEqual(Ring(("s",), [("c", (("s", times),))]).covers, (("c", (("s", times),)),))

    def test_summed(self):
        covers = [RIGHT, ("d", (("c", 1),))]
        for summed in no_integers() + [0, "c", ["c"], {"c": 1}]:
            if not isinstance(summed, tuple):
                self.wrong(("s",), covers, summed, "summed", 0)
        for value in no_integers() + [0, "s", "e", "C", ("c",), Word(4, 1)]:
            self.wrong(("s",), covers, (value,), "summed", 0)
            self.wrong(("s",), covers, ("d", value, value), "summed", 1)
            self.wrong(("s",), covers, ("d", "c", value), "summed", 2)
        self.wrong(("s",), covers, ("d", "d"), "summed", 1)
        self.wrong(("s",), covers, ("c", "d", "c"), "summed", 2)

    def test_one_ahead_of_the_other(self):
        self.wrong((), (), None, "contents", 0)
        self.wrong(tuple("stuvwx"), (), None, "covers", 0)
        self.wrong(tuple("stuvwx"), [("c", None)], None, "names", 7)
        self.wrong(tuple("stuv"), [("c", None)], None, "total", 0)
        self.wrong(tuple("stuv"), [RIGHT], None, "summed", 0)


class Fillings(unittest.TestCase):
    def test_the_example(self):
        for width in (1, 2, 3, 4):
            most = 2 ** width - 1
            found = {s: fillings(EXAMPLE, width, {"s": s}) for s in range(most + 1)}
            if width % 2:
                self.assertTrue(all(len(found[s]) == 1 for s in range(1, most)))
                self.assertEqual((found[0], found[most]), ([], [(0,)]))
                self.assertEqual(sum(len(rows) for rows in found.values()), most)
            else:
                third = most // 3
                self.assertEqual(found[most], [(0,), (third,), (2 * third,)])
                self.assertEqual(found[0], [(third,), (2 * third,)])
                self.assertEqual([len(found[s]) for s in range(1, most)], [3 if s % 3 == 0 else 0 for s in range(1, most)])
                self.assertEqual(sum(len(rows) for rows in found.values()), most + 2)
        rows = [(s, *filling) for s in range(4) for filling in fillings(EXAMPLE, 2, {"s": s})]
        self.assertEqual(rows, [(0, 1), (0, 2), (3, 0), (3, 1), (3, 2)])
        self.assertEqual((unique(EXAMPLE), exact(EXAMPLE)), (~Widths.multiples(2), Widths.none()))

    def test_against_all_tuples(self):
        chance = chances(52)
        seen = {"empty": 0, "full": 0, "several": 0, "none": 0}
        for _ in range(60):
            told = random_ring(chance)
            ring = ring_of(told)
            for width in (1, 2, 3):
                if 2 ** (width * len(told[1])) > 64 and chance.random() < 0.5:
                    continue
                most = 2 ** width - 1
                for values in itertools.product((0, most, chance.randrange(most + 1)), repeat=len(told[0])):
                    words = dict(zip(told[0], values))
                    wanted = all_fillings(told, width, words)
                    if len(wanted) > 64:
                        continue
                    found = fillings(ring, width, words)
                    self.assertEqual(found, wanted)
                    self.assertTrue(all(type(row) is tuple and type(value) is int for row in found for value in row))
                    seen["empty"] += any(0 in row for row in found)
                    seen["full"] += any(most in row for row in found)
                    seen["several"] += len(found) > 1
                    seen["none"] += not found
        self.assertTrue(all(many > 30 for many in seen.values()), seen)

    def test_integers_and_words(self):
        ring = Ring(("s", "t"), [("c", (("s", 1), ("t", 2)))])
        words = {"s": Word(4, 3), "t": 5, "x": None, "c": 99}
        before = dict(words)
        self.assertEqual(fillings(ring, 4, words), [(2,)])
        self.assertEqual(fillings(ring=ring, width=4, words={"t": Word(4, 5), "s": 3}), [(2,)])
        self.assertEqual(words, before)

    def test_far_widths(self):
        ring = Ring(("s",), [("c", (("s", 1), ("d", 2))), ("d", (("s", 5), ("c", 4)))])
        for width in (31, 32, 63, 64):
            most = 2 ** width - 1
            for s in (0, 1, most, most // 7, most - 5):
                found = fillings(ring, width, {"s": s})
                self.assertEqual(found, sorted(found))
                for row in found:
                    self.assertTrue(fits((("s",), ring.covers, ()), width, {"s": s, "c": row[0], "d": row[1]}))
        self.assertEqual(fillings(Ring(("s",), [RIGHT]), 64, {"s": 7}), [(2 ** 64 - 8,)])

    def test_wrong_arguments_in_their_order(self):
        ring = Ring(("t", "s"), [("c", (("s", 1), ("c", 9)))])
        for ask in (lambda width, words: fillings(ring, width, words), lambda width, words: fills(ring, width, words, (1,)),
                    lambda width, words: fills(ring, width, words, None)):
            for width in no_integers() + [0, -1, 65, 10 ** 30, Word(4, 4)]:
                raised(self, BadWidth, lambda: ask(width, {}), width=width)
            raised(self, NoWord, lambda: ask(4, {}), name="t")
            raised(self, NoWord, lambda: ask(4, {"s": None, "c": 1}), name="t")
            raised(self, NoWord, lambda: ask(4, {"t": None}), name="s")
            for value in no_integers() + [-1, 16, 10 ** 30, Word(3, 1), Word(5, 1)]:
                raised(self, BadWord, lambda: ask(4, {"s": None, "t": value}), value=value)
                raised(self, BadWord, lambda: ask(4, {"s": value, "t": Word(4, 15)}), value=value)

    def most_solving(self, ring, width, s):
        """How many rows of rests solve the system, for the set of empty checks for which it is most."""
        most = 2 ** width - 1
        found = 0
        for empties in ((), ("c",), ("d",), ("c", "d")):
            others = [check for check in ring.checks if check not in empties]
            many = 0
            for rests in itertools.product(range(most), repeat=len(others)):
                words = {"s": s, "c": 0, "d": 0, **dict(zip(others, rests))}
                sums = [words[check] + sum(times * words[name] for name, times in cover) for check, cover in ring.covers]
                many += all(together % most == 0 for together in sums)
            found = max(found, many)
        return found

    def test_too_many(self):
        # c + d and s together have the rest 0: M rows with both not EMPTY if s has.
        ring = Ring(("s",), [("c", (("d", 1), ("s", 1))), ("d", (("c", 1), ("s", 1)))])
        told = (ring.contents, ring.covers, ring.summed)
        for width in range(1, 8):
            most = 2 ** width - 1
            self.assertEqual(self.most_solving(ring, width, 0), most)
            for s in (0, most):
                if width < 7:
                    self.assertEqual(fillings(ring, width, {"s": s}), all_fillings(told, width, {"s": s}))
                else:
                    raised(self, TooLarge, lambda: fillings(ring, width, {"s": s}), what="fillings", most=64)
            self.assertIs(fills(ring, width, {"s": 0}, (1, most - 1)), fits(told, width, {"s": 0, "c": 1, "d": most - 1}))
        self.assertIs(fills(ring, 7, {"s": 0}, (1, 126)), True)

    def test_63_and_65(self):
        # The determinants are 10 * 7 - 7 and 10 * 7 - 5; at the width 12 both divide M, the first one at 6, too.
        inner = Ring(("s",), [("c", (("c", 9), ("d", 7))), ("d", (("c", 1), ("d", 6), ("s", 1)))])
        outer = Ring(("s",), [("c", (("c", 9), ("d", 5))), ("d", (("c", 1), ("d", 6), ("s", 1)))])
        self.assertEqual([self.most_solving(ring, 6, 0) for ring in (inner, outer)], [63, 1])
        for width in (6, 12):
            found = fillings(inner, width, {"s": 0})
            self.assertTrue(55 < len(found) < 64)
            self.assertTrue(all(fits(((), inner.covers, ()), width, {"s": 0, "c": c, "d": d}) for c, d in found))
            self.assertEqual(found, sorted(set(found)))
        self.assertEqual(fillings(inner, 6, {"s": 0}), all_fillings((("s",), inner.covers, ()), 6, {"s": 0}))
        raised(self, TooLarge, lambda: fillings(outer, 12, {"s": 0}), what="fillings", most=64)
        raised(self, TooLarge, lambda: fillings(outer, 12, {"s": 4095}), what="fillings", most=64)
        # A word of s at which nothing solves the system is no trouble.
        self.assertEqual(fillings(outer, 12, {"s": 1}), [])

    def test_three_checks(self):
        # Each check is what the two others and itself add up to: M ** 2 rows.
        ring = Ring(("s",), [(name, tuple((other, 1) for other in "cde" if other != name)) for name in "cde"])
        told = (ring.contents, ring.covers, ring.summed)
        for width in (1, 2, 3):
            self.assertEqual(fillings(ring, width, {"s": 1}), all_fillings(told, width, {"s": 1}))
        raised(self, TooLarge, lambda: fillings(ring, 4, {"s": 1}), what="fillings", most=64)

    def test_too_many_for_some_set_of_empty_checks_is_enough(self):
        # With s = 1 no row fits, but the system is solved by many rests.
        ring = Ring(("s", "t"), [("c", (("d", 1), ("s", 1))), ("d", (("c", 1), ("s", 1)))], summed=("c", "d"))
        raised(self, TooLarge, lambda: fillings(ring, 7, {"s": 5, "t": 1}), what="fillings", most=64)
        self.assertIs(fills(ring, 7, {"s": 5, "t": 1}, (122, 127)), True)

    def test_fills(self):
        chance = chances(53)
        for _ in range(40):
            told = random_ring(chance)
            ring = ring_of(told)
            for width in (1, 2):
                words = {name: chance.randrange(2 ** width) for name in told[0]}
                wanted = all_fillings(told, width, words)
                for row in itertools.product(range(-1, 2 ** width + 1), repeat=len(ring.checks)):
                    self.assertIs(fills(ring, width, words, row), row in wanted)
                for row in wanted:
                    for other in (list(row), row + (0,), row[:-1], tuple([Word(width, value) for value in row]),
                                  tuple([str(value) for value in row]), (row,), dict(enumerate(row))):
                        self.assertIs(fills(ring, width, words, other), False)

    def test_fills_of_any_value(self):
        ring = Ring(("s",), [RIGHT])
        self.assertIs(fills(ring=ring, width=1, words={"s": 1}, filling=(0,)), True)
        self.assertIs(fills(ring, 1, {"s": 0}, (1,)), True)
        self.assertIs(fills(ring, 1, {"s": 0}, (True,)), False)
        self.assertIs(fills(ring, 1, {"s": 1}, (False,)), False)
        for value in no_integers() + [0, 1, 15, Word(4, 1)]:
            if value != (1,):
                self.assertIs(fills(ring, 4, {"s": 14}, value), False)
            self.assertIs(fills(ring, 4, {"s": 14}, (value,)), type(value) is int and value == 1)

    def test_totals_by_hand(self):
        covers = (("c", (("s", 3), ("c", 2))),)
        self.assertEqual(total_of(covers, "c", 4, {"s": 7, "c": 3}), (21 + 6 - 1) % 15 + 1)


class UniqueAndExact(unittest.TestCase):
    def by_hand(self, told, width):
        """Whether no words have two fillings, and whether all words have just one."""
        many = [len(all_fillings(told, width, dict(zip(told[0], values))))
                for values in itertools.product(range(2 ** width), repeat=len(told[0]))]
        return max(many) < 2, set(many) == {1}

    def test_rings_of_one_check(self):
        covers = [(("s", k),) for k in range(1, 10)] + [(("c", k),) for k in range(1, 10)]
        covers += [(("s", k), ("c", n)) for k in range(1, 10) for n in range(1, 10)]
        for cover in covers:
            for summed in ((), ("c",)):
                told = (("s",), (("c", cover),), summed)
                ring = ring_of(told)
                alone, just = unique(ring), exact(ring)
                self.assertEqual((type(alone), type(just)), (Widths, Widths))
                for width in (1, 2, 3, 4):
                    self.assertEqual((width in alone, width in just), self.by_hand(told, width), (told, width))

    def test_several_contents(self):
        chance = chances(54)
        for _ in range(60):
            told = random_ring(chance, 3, 1)
            try:
                alone, just = unique(ring_of(told)), exact(ring_of(told))
            except TooLarge:
                continue
            for width in (1, 2):
                self.assertEqual((width in alone, width in just), self.by_hand(told, width), (told, width))

    def test_told_by_sayings(self):
        for cover in ((("s", 1), ("c", 2)), (("s", 3), ("t", 1)), (("c", 5),)):
            for summed in ((), ("c",)):
                ring = Ring(("s", "t"), [("c", cover)], summed=summed)
                f, c, n = ring.fits, named("c"), named("n")
                self.assertEqual(unique(ring=ring), ~sometimes(f & f.replaced({"c": n}) & ~same(c, n)))
                for width in (1, 2, 3, 6, 12, 100, 399):
                    rows = count(f, width) * (2 ** width) ** (3 - len(f.names))
                    self.assertEqual(width in exact(ring=ring), width in unique(ring) and rows == (2 ** width) ** 2)

    def test_contents_with_any_names(self):
        for contents in (tuple("abde"), tuple("nmop"), ("a", "n", "b", "d"), tuple("abcd")):
            ring = Ring(contents, [("f", ((contents[3], 1),))])
            self.assertEqual((unique(ring), exact(ring)), (Widths.every(), Widths.every()))
            ring = Ring(contents[:2], [("e", ((contents[1], 1), ("e", 2)))])
            self.assertEqual(unique(ring), ~Widths.multiples(2))

    def test_any_names(self):
        odd = ~Widths.multiples(2)
        for content, check in itertools.permutations("abcdefg", 2):
            ring = Ring((content,), [(check, ((content, 1), (check, 2)))])
            self.assertEqual((unique(ring), exact(ring)), (odd, Widths.none()))
        for names in itertools.permutations("abcde"):
            ring = Ring(names[:4], [(names[4], ((names[0], 1), (names[3], 1), (names[4], 2)))])
            self.assertEqual(unique(ring), odd)

    def test_contents_that_are_in_no_cover(self):
        ring = Ring(("s", "t", "u"), [("c", (("t", 1),))])
        self.assertEqual((unique(ring), exact(ring)), (Widths.every(), Widths.every()))
        self.assertEqual(table(ring.fits).classes(), [(1, (1, 1))])
        alone = Ring(("s", "t"), [("c", (("c", 1),))])
        self.assertEqual((unique(alone), exact(alone)), (Widths.every(), Widths.none()))

    def test_more_checks(self):
        for covers in ([RIGHT, ("d", (("s", 1),))], [RIGHT, ("d", (("d", 1),)), ("e", (("e", 1),))]):
            raised(self, TooLarge, lambda: unique(Ring(("s",), covers)), what="checks", most=1)
            raised(self, TooLarge, lambda: exact(Ring(("s",), covers)), what="checks", most=1)

    def test_many_contents(self):
        for many in (1, 2, 3, 4):
            contents = tuple("stuv"[:many])
            ring = Ring(contents, [("c", tuple((name, at + 2) for at, name in enumerate(contents)) + (("c", 4),))])
            f, c, n = ring.fits, named("c"), named("n")
            self.assertEqual(unique(ring), ~sometimes(f & f.replaced({"c": n}) & ~same(c, n)))
            self.assertEqual(exact(ring), Widths.none())


class Texts(unittest.TestCase):
    def test_reading(self):
        self.assertEqual(EXAMPLE.fits, Saying.read("same(c, ~(s + 2 * c))"))
        self.assertEqual(EXAMPLE.sum_of("c"), Formula.read("s + 2 * c"))


if __name__ == "__main__":
    unittest.main()
