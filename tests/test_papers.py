import unittest

from tests.test_counts import random_sayings
from tests.test_stairs import PARTS, parts_of
from tests.test_too_large import zero, zeros
from tests.trees import chances
from tests.values import no_integers, raised
from twozeros.counts import count, weights
from twozeros.errors import BadPaper, BadWidth, TooLarge
from twozeros.formulas import named
from twozeros.papers import counted, is_paper, paper, table_of
from twozeros.sayings import Saying, any_of, no, yes
from twozeros.stairs import Stairs, is_stairs, stairs
from twozeros.tables import Table, table
from twozeros.words import Word

ALIKE = Saying.read("same(~(x + x + x), ~x + ~x + ~x)")


def system_of(saying, empties, chosen):
    """The rows and the constants of a system."""
    free = [name for name in saying.names if name not in empties]
    rows = [saying.forms()[at].row(free) for at in chosen]
    return [row[:-1] for row in rows], [row[-1] for row in rows]


def turned_stairs(made):
    """Other stairs of the same matrix: two rows of left are added, and the signs of the first row and column exchanged."""
    left, right, left_back, right_back, divisors = [[list(row) for row in part] for part in parts_of(made)[:4]] + [made.divisors]
    rank = len(divisors)
    if len(left) > rank:
        # What is added to a row that comes out as zeros is such a row, too, or nothing: here a far multiple of itself.
        for row in range(rank, len(left)):
            left[row] = [-worth for worth in left[row]]
            for line in left_back:
                line[row] = -line[row]
    if rank:
        left[0] = [-worth for worth in left[0]]
        for line in left_back:
            line[0] = -line[0]
        for line in right:
            line[0] = -line[0]
        right_back[0] = [-worth for worth in right_back[0]]
    if len(left) > rank:
        far = 10 ** 60
        left[0] = [one + far * other for one, other in zip(left[0], left[-1])] if len(left) > 1 else left[0]
        if len(left) > 1:
            for line in left_back:
                line[-1] -= far * line[0]
    frozen = [tuple(tuple(row) for row in part) for part in (left, right, left_back, right_back)]
    return Stairs(*frozen, divisors)


class Made(unittest.TestCase):
    def test_the_pairs_in_the_order_of_weights(self):
        for _, saying in random_sayings(141, 80):
            made = paper(saying)
            self.assertIs(type(made), list)
            self.assertEqual([entry[:2] for entry in made], [row[:2] for row in weights(saying) if row[1]])
            for empties, chosen, steps in made:
                self.assertEqual([type(empties), type(chosen), type(steps)], [tuple, tuple, Stairs])
                self.assertTrue(is_stairs(system_of(saying, empties, chosen)[0], steps))
            self.assertIs(is_paper(saying, made), True)

    def test_without_pairs(self):
        for saying in (yes(), no(), Saying.read("isempty(a)")):
            self.assertEqual(paper(saying), [])
            self.assertEqual([is_paper(saying, []), is_paper(saying, ()), is_paper(saying, None)], [True, True, False])
            self.assertEqual(counted(saying, (), 3), count(saying, 3))

    def test_new_lists(self):
        paper(ALIKE).clear()
        self.assertEqual(len(paper(saying=ALIKE)), 3)


class Accepted(unittest.TestCase):
    def other_papers(self, saying, chance):
        """The paper in another order, as a tuple, with further pairs, and with other stairs."""
        made = paper(saying)
        mixed = list(made)
        chance.shuffle(mixed)
        further = list(made)
        told = {entry[:2] for entry in made}
        for empties in ((), saying.names[:1], saying.names, saying.names[1:]):
            for chosen in ((0,), (len(saying.forms()) - 1,), tuple(range(len(saying.forms())))):
                if saying.forms() and (empties, chosen) not in told:
                    told.add((empties, chosen))
                    further.insert(chance.randint(0, len(further)), (empties, chosen, stairs(system_of(saying, empties, chosen)[0])))
        other = [(empties, chosen, turned_stairs(steps)) for empties, chosen, steps in made]
        return [made, mixed, made[::-1], tuple(made), further, tuple(further), other, other[::-1]]

    def test_other_papers(self):
        chance = chances(142)
        for _, saying in random_sayings(143, 80):
            for thing in self.other_papers(saying, chance):
                self.assertIs(is_paper(saying, thing), True)
                for width in (1, 2, 3, 4, 6, 12, 60, 400):
                    self.assertEqual(counted(saying, thing, width), count(saying, width), (str(saying), width))
                self.assertIs(type(table_of(saying, thing)), Table)
                self.assertEqual(table_of(saying, thing), table(saying))

    def test_constants(self):
        for text in (
            "isfull(x + 5)", "like(7, 0)", "like(3 * x + 1, 0)", "like(x, 1) & like(x, 8)", "same(x + 15, y)",
            "like(x, 14) & like(y, x + 1) & like(y, 0)", "like(3 * x, 1) & like(9 * x, 10)", "like(15, 0) ^ like(x, 3)",
        ):
            saying = Saying.read(text)
            for thing in self.other_papers(saying, chances(144)):
                for width in range(1, 12):
                    self.assertEqual(counted(saying, thing, width), count(saying, width), (text, width))
                self.assertEqual(table_of(saying, thing), table(saying))

    def test_names_of_the_parameters(self):
        made = paper(ALIKE)
        self.assertIs(is_paper(saying=ALIKE, thing=made), True)
        self.assertEqual(counted(saying=ALIKE, thing=made, width=2), 2)
        self.assertEqual(table_of(saying=ALIKE, thing=made), table(ALIKE))

    def test_a_paper_stays(self):
        made = paper(ALIKE)
        before = [(empties, chosen, parts_of(steps)) for empties, chosen, steps in made]
        counted(ALIKE, made, 5)
        table_of(ALIKE, made)
        self.assertEqual([(empties, chosen, parts_of(steps)) for empties, chosen, steps in made], before)


class Refused(unittest.TestCase):
    def refused(self, saying, thing):
        self.assertIs(is_paper(saying, thing), False)
        raised(self, BadPaper, lambda: counted(saying, thing, 400))
        raised(self, BadPaper, lambda: table_of(saying, thing))

    def test_one_integer_changed(self):
        chance = chances(145)
        for _, saying in random_sayings(146, 25):
            made = paper(saying)
            for at, (empties, chosen, steps) in enumerate(made[:12]):
                parts = parts_of(steps)
                name = chance.randrange(4)
                for row in range(len(parts[name])):
                    for column in range(len(parts[name])):
                        matrix = [list(line) for line in parts[name]]
                        matrix[row][column] += chance.choice([-1, 1, 2, 10 ** 20])
                        spoiled = parts[:name] + [tuple(tuple(line) for line in matrix)] + parts[name + 1:]
                        self.refused(saying, made[:at] + [(empties, chosen, Stairs(*spoiled))] + made[at + 1:])
                for index, divisor in enumerate(parts[4]):
                    divisors = (*parts[4][:index], divisor + chance.choice([-1, 1, divisor]), *parts[4][index + 1:])
                    self.refused(saying, made[:at] + [(empties, chosen, Stairs(*parts[:4], divisors))] + made[at + 1:])

    def test_a_pair_left_out_or_told_twice(self):
        for _, saying in random_sayings(147, 40):
            made = paper(saying)
            for at in range(min(len(made), 10)):
                self.refused(saying, made[:at] + made[at + 1:])
                self.refused(saying, made + [made[at]])
                empties, chosen, steps = made[at]
                self.refused(saying, made + [(empties, chosen, turned_stairs(steps))])
                self.refused(saying, tuple(made[:at]))

    def test_a_further_pair_told_twice(self):
        made = paper(ALIKE)
        further = (("x",), (1,), stairs([[]]))
        self.assertIs(is_paper(ALIKE, made + [further]), True)
        self.refused(ALIKE, made + [further, further])

    def test_wrong_entries(self):
        made = paper(ALIKE)
        steps = stairs([[3]])
        for entry in (
            [(), (0,), steps], ((), (0,), steps, 1), ((), (0,)), ((), [0], steps), ([], (0,), steps), (None, (0,), steps),
            ((), (False,), steps), ((), (), steps), ((), (-2,), steps), ((), (2,), steps), ((), None, steps), ((), 0, steps),
            ((), ("0",), steps), ((), (0,), None), ((), (0,), parts_of(steps)), ((), (0,), tuple(parts_of(steps))),
            ((), (0,), stairs([[9]])), ((), (0,), stairs([[1]])), ((), (0,), stairs([[3], [1]])), ("", (0,), steps),
            ((), (None,), steps), ((), (0, 0), stairs([[3], [3]])), ((), (Word(4, 0),), steps), (((),), (0,), steps),
        ):
            self.refused(ALIKE, [entry] + made[1:])
            self.refused(ALIKE, made + [entry])
        both = stairs([[3], [1]])
        for chosen in ((1, 0), (0, True), (0, 1, 1), (False, 1), [0, 1], (0, 1, 2), ("0", 1), (0, None)):
            self.refused(ALIKE, made[:2] + [((), chosen, both)])
        self.assertIs(is_paper(ALIKE, made[:2] + [((), (0, 1), both)]), True)

    def test_names(self):
        saying = Saying.read("like(a + b, c) & ~isempty(a + b) | isfull(c)")
        made = paper(saying)
        self.assertIs(is_paper(saying, made), True)
        row = [[1, 1, -1]]
        for empties, width in (
            (("b", "a"), 1), (("a", "a"), 2), (("d",), 3), (("a", "d"), 2), ("a", 2), (["a"], 2), (("ab",), 3), ((None,), 3),
            ((0,), 3), ((("a",),), 3), ((True,), 3), (("a", 0), 2), (("c", "b"), 1), ((named("a"),), 2),
        ):
            for breadth in range(4):
                self.refused(saying, made + [(empties, (0,), stairs([row[0][:breadth]]))])

    def test_bools(self):
        saying = Saying.read("like(x, 0)")
        one = ((1,),)
        self.assertIs(is_paper(saying, paper(saying)), True)
        for parts in ((((True,),), one, one, one, (1,)), (one, one, one, ((True,),), (1,)), (one, one, one, one, (True,))):
            self.refused(saying, [((), (0,), Stairs(*parts)), (("x",), (0,), stairs([[]]))])
        self.assertIs(is_paper(saying, [((), (0,), Stairs(one, one, one, one, (1,))), (("x",), (0,), stairs([[]]))]), True)

    def test_lists_in_the_place_of_tuples(self):
        made = paper(ALIKE)
        empties, chosen, steps = made[2]
        for name in PARTS:
            for spoil in (list, lambda part: tuple(list(row) if isinstance(row, tuple) else [row] for row in part)):
                parts = [spoil(getattr(steps, part)) if part == name else getattr(steps, part) for part in PARTS]
                self.refused(ALIKE, made[:2] + [(empties, chosen, Stairs(*parts))])

    def test_any_value(self):
        made = paper(ALIKE)
        for value in no_integers() + [0, 1, Word(4, 0), stairs([[3]]), {entry[:2]: entry[2] for entry in made}, made[0]]:
            self.refused(ALIKE, value)
            self.refused(ALIKE, [value])
            self.refused(ALIKE, made + [value])
            for at in range(3):
                entry = (*made[0][:at], value, *made[0][at + 1:])
                if entry[0] != () or entry[1] != (0,) or value is None or not isinstance(value, Stairs):
                    self.refused(ALIKE, [entry if not (at == 0 and value == ()) else None] + made[1:])

    def test_the_paper_of_another_saying(self):
        other = Saying.read("same(~(x + x + x), ~x + ~x)")
        self.assertIs(is_paper(other, paper(other)), True)
        self.refused(other, paper(ALIKE))


class Order(unittest.TestCase):
    def test_width_comes_first(self):
        for width in no_integers() + [0, -1, 401, 10 ** 30]:
            raised(self, BadWidth, lambda: counted(ALIKE, None, width), width=width)
            raised(self, BadWidth, lambda: counted(ALIKE, paper(ALIKE), width), width=width)

    def test_the_length_of_table_of(self):
        saying = any_of(*zeros(101, 103))
        made = [
            (empties, chosen, stairs(system_of(saying, empties, chosen)[0])) for empties in ((), ("x",))
            for chosen in ((0,), (1,), (0, 1))
        ]
        self.assertIs(is_paper(saying, made), True)
        self.assertEqual([counted(saying, made, width) for width in (1, 2, 100, 51)], [2, 2, 102, 104])
        raised(self, BadPaper, lambda: table_of(saying, made[1:]))
        for thing in (made, made[::-1], tuple(made)):
            with self.assertRaises(TooLarge) as caught:
                table_of(saying, thing)
            self.assertEqual(vars(caught.exception), {"what": "length", "most": 5040})

    def test_pairs_without_a_weight_do_not_count_for_the_length(self):
        x, y = named("x"), named("y")
        saying = zero((101, x), (1, y)) & zero((103, x), (2, y))
        made = paper(saying)
        further = [((), (0,), stairs([[101, 1]])), (("y",), (0,), stairs([[101]])), (("y",), (1,), stairs([[103]]))]
        self.assertIs(is_paper(saying, made + further), True)
        self.assertEqual(table_of(saying, made + further), table(saying))


if __name__ == "__main__":
    unittest.main()
