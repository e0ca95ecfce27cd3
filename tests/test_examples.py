"""The examples of the document, word for word."""

import doctest
import re
import unittest

from twozeros import desk, formulas, forms, sayings, tables, widthsets
from twozeros.errors import ZerosError

PART_1 = """
>>> from twozeros.words import Word
>>> a, b = Word(4, 9), Word(4, 8)
>>> [str(a), (a + b).value, (~a).value, (a - a).is_full, (3 * a).value, (a << 1).value, abs(a), (7 - a).value]
['1001', 2, 6, True, 12, 3, 6, 13]
>>> full = Word.full(4)
>>> [full.rest, full == Word.empty(4), full.like(0), (full + 0).value, (0 * full).value, bool(full - 0)]
[0, False, True, 15, 0, True]
"""

PART_2 = """
>>> from twozeros.totals import Running, total
>>> from twozeros.words import Word
>>> kept = Running(4)
>>> kept += 9
>>> kept += Word(4, 6)
>>> [kept.total.value, len(kept), 6 in kept, total(Word(4, 9), 6, 0).value]
[15, 2, True, 15]
>>> kept -= 9
>>> kept.drop(6)
>>> kept.total.value
0
>>> from twozeros.halves import half_total, joined, packed
>>> [str(word) for word in packed(4, [1, 2, 3])]
['0110', '1100']
>>> [half_total(4, [1, 2, 3]).value, half_total(4, [1]).value, half_total(4, [2, 3]).value]
[3, 4, 11]
>>> joined(4, [(1, Word(4, 4)), (2, Word(4, 11))]).value
3
"""

PART_3 = """
>>> a, b = named("a"), named("b")
>>> mend = ~(~a + ~b + 3)
>>> [str(mend), mend.names, mend.size, str(mend.value_at(2, {"a": 1, "b": 0}))]
['~(~a + ~b + 3)', ('a', 'b'), 8, '01']
>>> [str(2 * (a - b) << 3), Formula.read("a + (b - 1)") == a + (b - 1)]
['2 * (a - b) << 3', True]
>>> Formula.read("(a)")
raises BadFormula('(a)')
"""

PART_4 = """
>>> a, b = named("a"), named("b")
>>> [str(form_of(3 * a - (b >> 2) + 5)), str(form_of(3 * a - (b >> 2)).normal()), form_of(~(a + a)).rest_at(3, {"a": 5})]
['(12 a - b + 20) / 4', '12 a - b', 4]
>>> [[str(f) for f in complement_forms(~(~a + 6 * b) - (a - b))]]
[['a', 'a - 6 b', 'b', 'a - b']]
>>> [is_empty_when(~(a + b), (), [Form({"a": 1, "b": 1})]), is_empty_when(~(a + b), ("a", "b"), [Form({"a": 1, "b": 1})])]
[True, False]
"""

PART_5 = """
>>> a, b = named("a"), named("b")
>>> odd = same(~(a + a + a), ~a + ~a + ~a)
>>> [str(odd), odd.holds_at(3, {"a": 1}), odd.holds_at(2, {"a": 1}), [str(f) for f in odd.forms()]]
['same(~(a + a + a), ~a + ~a + ~a)', True, False, ['3 a', 'a']]
>>> [odd.truth((), []), odd.truth((), [Form({"a": 3})]), odd.truth(("a",), [])]
[True, False, True]
>>> str(follows(is_empty(a) & is_empty(b), ~(like(a, b) ^ no())))
'~(isempty(a) & isempty(b)) | ~(like(a, b) ^ no)'
"""

PART_6 = """
>>> from twozeros.stairs import is_stairs, listed, order_of, shared, solution, solutions, stairs
>>> rows = [[1, 2], [2, 1]]
>>> made = stairs(rows)
>>> [made.divisors, is_stairs(rows, made), is_stairs([[1, 2], [2, 2]], made)]
[(1, 3), True, False]
>>> [solutions(rows, [0, 0], 4), solutions(rows, [0, 0], 3), solutions(rows, [1, 1], 4), listed(rows, [1, 2], 4)]
[3, 1, 0, [[4, 5], [9, 10], [14, 0]]]
>>> [solutions([[]], [6], 2), solutions([[]], [6], 3), solution([[3]], [1], 3)]
[1, 0, [2]]
>>> [order_of(7), order_of(9), order_of(1), shared(12, 4), shared(9, 10 ** 30)]
[3, 6, 1, 3, 3]
"""

PART_7 = """
>>> from twozeros.counts import count, example, weighted, weights
>>> from twozeros.sayings import Saying
>>> alike = Saying.read("same(~(x + x + x), ~x + ~x + ~x)")
>>> list(weights(alike))
[((), (), 1), ((), (0,), -1), ((), (1,), -1), ((), (0, 1), 2), (('x',), (), 1)]
>>> [count(alike, 1), count(alike, 2), count(alike, 3), count(alike, 4)]
[2, 2, 8, 14]
>>> good = Saying.read("isfull(r + m)")
>>> [count(good, 1), weighted(good, "r", 2, 1), weighted(good, "r", 0, 1)]
[3, 7, 1]
"""

PART_8 = """
>>> either = Widths.dividing(3) | Widths.dividing(7)
>>> [str(either), either.first(8), either.up_to(12), either.kth(3), either.density]
['- | 1 | 6 | 2 3 6', [2, 3, 4, 6, 8, 9, 10, 12], 8, 6, (2, 3)]
>>> [str(either - Widths.of(2)), str(Widths.told([1, 3], 5, 4, [1])), str(~Widths.of(3))]
['- | 3 | 6 | 2 3 6', '- | 1 | 2 | 1', '1 2 | 4 | 1 | 1']
"""

PART_9 = """
>>> x = named("x")
>>> one, other = ~(x + x + x), 3 * ~x
>>> t = table(same(one, other))
>>> [t.start, t.length, t.classes(), t.count_at(2), t.polynomial(10 ** 30 + 1)]
[1, 2, [(1, (1, 1)), (2, (-1, 1))], 2, [1, 1]]
>>> [str(s) for s in compared(one, other)]
['- | 1 | 2 | 1', '- | 1 | 2 | 2', '- | 1 | 1 | -']
>>> u = table(is_full(x + 5))
>>> [u.start, u.length, u.classes(), u.count_at(1), u.count_at(2)]
[2, 1, [(1, (1,))], 2, 1]
>>> [str(always(is_full(x + 5))), str(sometimes(is_full(x + 5))), str(exactly(is_full(x + 5), 2, 7))]
['1 | 2 | 1 | -', '- | 1 | 1 | 1', '1 | 2 | 1 | -']
"""

PART_10 = """
>>> from twozeros.papers import counted, is_paper, paper, table_of
>>> from twozeros.sayings import Saying
>>> from twozeros.stairs import Stairs, stairs
>>> from twozeros.tables import table
>>> alike = Saying.read("same(~(x + x + x), ~x + ~x + ~x)")
>>> made = paper(alike)
>>> [(E, U, s.divisors) for E, U, s in made]
[((), (0,), (3,)), ((), (1,), (1,)), ((), (0, 1), (1,))]
>>> [is_paper(alike, made), is_paper(alike, made[::-1]), is_paper(alike, made[1:]), counted(alike, made, 2), counted(alike, made, 3)]
[True, True, False, 2, 8]
>>> other = Stairs(((-1,),), ((-1,),), ((-1,),), ((-1,),), (3,))
>>> [is_paper(alike, [((), (0,), other)] + made[1:]), table_of(alike, made) == table(alike)]
[True, True]
>>> counted(alike, [((), (0,), stairs([[9]]))] + made[1:], 2)
raises BadPaper()
"""

PART_14 = """
>>> desk = Desk()
>>> desk.run("formula three = a + a + a", "saying odd = same(~three, 3 * ~a)", "show odd", "always same(~three, 3 * ~a)", "count 2 : same(~three, 3 * ~a)")
['ok', 'ok', 'same(~(a + a + a), 3 * ~a)', '- | 1 | 2 | 1', '2']
>>> desk.run("layout r m : c r m", "begin 4 r=9 m=8", "message", "mend box c m n eager", "send n=6", "message", "takes compares c")
['ok', 'ok', 'r=9 m=8 c=13', 'ok', 'ok', 'r=9 m=6 c=15', 'no']
>>> [desk.say("undo"), desk.say("message"), len(desk)]
['ok', 'r=9 m=8 c=13', 5]
>>> desk.say("count 2: yes")
raises BadLine()
"""


def error_of(action):
    """The error that the action raises, as the document writes it."""
    try:
        action()
    except ZerosError as error:
        told = ", ".join([repr(value) for value in vars(error).values()])
        return f"{type(error).__name__}({told})"
    return "no error"


class Examples(unittest.TestCase):
    def run_example(self, name, text):
        told = re.sub(r">>> (.*)\nraises (.*)\n", r">>> print(error_of(lambda: \1))\n\2\n", text)
        modules = (formulas, forms, sayings, widthsets, tables, desk)
        known = {"error_of": error_of}
        for module in modules:
            known.update(vars(module))
        example = doctest.DocTestParser().get_doctest(told, known, name, None, None)
        said = []
        result = doctest.DocTestRunner(verbose=False).run(example, out=said.append)
        self.assertEqual(result.failed, 0, "".join(said))
        self.assertEqual(result.attempted, text.count(">>> "))

    def test_part_1(self):
        self.run_example("part 1", PART_1)

    def test_part_2(self):
        self.run_example("part 2", PART_2)

    def test_part_3(self):
        self.run_example("part 3", PART_3)

    def test_part_4(self):
        self.run_example("part 4", PART_4)

    def test_part_5(self):
        self.run_example("part 5", PART_5)

    def test_part_6(self):
        self.run_example("part 6", PART_6)

    def test_part_7(self):
        self.run_example("part 7", PART_7)

    def test_part_8(self):
        self.run_example("part 8", PART_8)

    def test_part_9(self):
        self.run_example("part 9", PART_9)

    def test_part_10(self):
        self.run_example("part 10", PART_10)

    def test_part_14(self):
        self.run_example("part 14", PART_14)


if __name__ == "__main__":
    unittest.main()
