import unittest

from tests.values import no_integers, raised
from twozeros.chains import Chain, lost
from twozeros.counts import count, example
from twozeros.desk import Desk
from twozeros.errors import BadLayout, BadLine, BadWidth, BadWord, Dropped, NoWord, TooLarge
from twozeros.formulas import Formula
from twozeros.layouts import Layout
from twozeros.boxes import Anew, Look, Mend
from twozeros.receivers import Receiver
from twozeros.sayings import Saying
from twozeros.tables import always, compared, sometimes

MESSAGE = ("layout r m : c r m", "begin 4 r=9 m=8")
CHAIN = ("mend box c m n eager", "look eye ~isempty(n)", "anew sum c")

# Each sort of line that changes something, one after another.
CHANGES = (
    "formula two = a + a", "saying odd = isempty(two)", "forget odd", "layout r m : c r m : d 3 c", "begin 4 r=9", "set m 8",
    "renew", "renew c", "mend box c m n eager", "look eye ~isempty(n)", "anew sum d", "send n=6", "boxes", "set r 0",
    "saying two = no", "formula odd = b", "begin 9 c=511", "layout a : c a", "forget two", "forget odd", "formula x = y",
)
QUESTIONS = (
    "value 4 a=3 : a + a", "holds 4 a=3 : isempty(a)", "count 4 : isempty(a)", "example 4 : isempty(a)", "always isempty(a)",
    "sometimes isempty(a)", "compare a : a + a", "show two", "message", "takes sums c", "lost sums rests c",
)


def desk_of(*lines):
    desk = Desk()
    desk.run(*lines)
    return desk


def state_of(desk):
    """All that can be asked of a desk, without changing it."""
    told = [len(desk), desk.kept_names]
    for line in (*[f"show {name}" for name in desk.kept_names], "message", *[f"takes {word} c" for word in Receiver.WORDS],
                 *[f"lost {word} {word} c" for word in Receiver.WORDS]):
        try:
            told.append(desk.say(line))
        except (BadLine, NoWord) as error:
            told.append(type(error).__name__)
    return told


class Formulas(unittest.TestCase):
    def test_kept(self):
        desk = Desk()
        self.assertEqual((len(desk), desk.kept_names), (0, ()))
        self.assertEqual(desk.say("formula two = a + a"), "ok")
        self.assertEqual(desk.say("saying odd = isempty(two)"), "ok")
        self.assertEqual((len(desk), desk.kept_names), (2, ("odd", "two")))
        self.assertEqual(desk.run("show two", "show odd"), ["a + a", "isempty(a + a)"])

    def test_put_in_all_at_once_when_kept(self):
        desk = desk_of("formula a = b", "formula b = a + b")
        self.assertEqual(desk.run("show a", "show b"), ["b", "b + b"])
        # The first b is not looked at again, and what is kept stays if b changes.
        desk.run("formula c = a - ~b", "formula b = full", "formula a = 3")
        self.assertEqual(desk.run("show c", "show a", "show b"), ["b - ~(b + b)", "3", "full"])
        desk.run("formula a = a + a", "formula a = a + a")
        self.assertEqual(desk.say("show a"), "3 + 3 + (3 + 3)")

    def test_put_in_everywhere(self):
        desk = desk_of("formula k = ~(a + a)")
        self.assertEqual(desk.run("saying s = same(k, a) & ~isempty(k + k)", "show s"),
                         ["ok", "same(~(a + a), a) & ~isempty(~(a + a) + ~(a + a))"])
        self.assertEqual(desk.run("value 4 a=3 : k", "holds 4 a=3 : isempty(k)", "count 4 : isempty(k)", "always like(k, k)"),
                         ["1001", "no", str(count(Saying.read("isempty(~(a + a))"), 4)), "- | 1 | 1 | 1"])
        self.assertEqual(desk.say("compare k : ~a + ~a"), " ; ".join(
            [str(part) for part in compared(Formula.read("~(a + a)"), Formula.read("~a + ~a"))]))
        desk.run("layout a : c a", "look eye isempty(k)")
        chain = Chain(Look("eye", Saying.read("isempty(~(a + a))")))
        sums = Receiver.of("sums")
        self.assertEqual(desk.say("lost sums sums c"), str(lost(chain, Layout(["a"], [("c", "a")]), sums, sums, "c")))
        self.assertEqual(desk.say("sometimes isempty(k)"), str(sometimes(Saying.read("isempty(~(a + a))"))))
        self.assertEqual(desk.say("example 4 : isempty(k)"), "a={}".format(example(Saying.read("isempty(~(a + a))"), 4)["a"]))

    def test_a_kept_saying_stands_for_nothing(self):
        desk = desk_of("saying s = isempty(a)", "formula t = s + s", "saying u = isempty(s)")
        self.assertEqual(desk.run("show t", "show u"), ["s + s", "isempty(s)"])

    def test_a_name_that_is_kept_by_the_other_sort(self):
        desk = desk_of("formula x = a", "saying x = isempty(x)")
        self.assertEqual((desk.say("show x"), desk.kept_names, len(desk)), ("isempty(a)", ("x",), 2))
        self.assertEqual(desk.run("formula y = x", "show y"), ["ok", "x"])
        self.assertEqual(desk.run("formula x = b", "show x", "formula y = x", "show y"), ["ok", "b", "ok", "b"])
        self.assertEqual(desk.kept_names, ("x", "y"))

    def test_forget(self):
        desk = desk_of("formula x = a", "saying y = no")
        for name in ("z", "a"):
            for word in ("forget", "show"):
                raised(self, NoWord, lambda: desk.say(f"{word} {name}"), name=name)
        self.assertEqual((desk.run("forget x", "forget y"), desk.kept_names, len(desk)), (["ok", "ok"], (), 4))
        raised(self, NoWord, lambda: desk.say("show x"), name="x")
        raised(self, NoWord, lambda: desk.say("forget x"), name="x")
        self.assertEqual(desk.run("formula y = x", "show y"), ["ok", "x"])

    def test_too_large(self):
        desk = desk_of("formula a = " + " + ".join(["a"] * 30))
        before = state_of(desk)
        for line, most in (
            ("formula b = a + a", 60), ("saying b = isempty(a + a)", 60), ("saying b = same(a, a) & same(a, a)", 150),
            ("value 0 : a + a", 60), ("holds 0 : isempty(a + a)", 60), ("count 0 : isempty(a + a)", 60),
            ("example 0 : isempty(a + a)", 60), ("always isempty(a + a)", 60), ("sometimes isempty(a + a)", 60),
            ("compare a + a : a", 60), ("compare a : a + a", 60), ("always same(a, a) & same(a, a)", 150),
        ):
            raised(self, TooLarge, lambda: desk.say(line), what="size", most=most)
        self.assertEqual(state_of(desk), before)
        desk.run(*MESSAGE)
        raised(self, TooLarge, lambda: desk.say("look eye isempty(a + a)"), what="size", most=60)


class Messages(unittest.TestCase):
    def test_begin_set_and_renew(self):
        desk = desk_of("layout r m : c r m : d 3 c")
        self.assertEqual(desk.run("begin 4 r=9 m=8", "message"), ["ok", "r=9 m=8 c=13 d=14"])
        self.assertEqual(desk.run("set m 6", "message"), ["ok", "r=9 m=6 c=13 d=14"])
        self.assertEqual(desk.run("renew d", "message", "renew", "message"), ["ok", "r=9 m=6 c=13 d=14", "ok", "r=9 m=6 c=0 d=12"])
        self.assertEqual(desk.run("set c 1", "renew d", "message"), ["ok", "ok", "r=9 m=6 c=1 d=11"])
        self.assertEqual(desk.run("begin 2 c=3", "message", "begin 64", "message"),
                         ["ok", "r=0 m=0 c=3 d=0", "ok", f"r=0 m=0 c={2 ** 64 - 1} d={2 ** 64 - 4}"])
        self.assertEqual(desk.run("begin 3 d=0 m=7 r=0 c=7", "message"), ["ok", "r=0 m=7 c=7 d=0"])

    def test_takes(self):
        desk = desk_of(*MESSAGE, "set m 6", "set c 15")
        self.assertEqual(desk.run(*[f"takes {word} c" for word in ("sums", "rests", "compares", "spares")]), ["yes", "yes", "no", "yes"])
        desk.run("set c 0", "set r 0", "set m 0")
        self.assertEqual(desk.run(*[f"takes {word} c" for word in ("sums", "rests", "compares", "spares")]), ["no", "yes", "no", "yes"])

    def test_a_new_layout_forgets_message_and_chain(self):
        desk = desk_of(*MESSAGE, "look eye no", "formula x = a")
        self.assertEqual(desk.say("lost sums sums c"), "- | 1 | 1 | 1")
        desk.say("layout r m : c r m")
        for line in ("message", "set r 1", "renew", "renew c", "send", "takes sums c"):
            raised(self, BadLine, lambda: desk.say(line))
        self.assertEqual((desk.say("lost sums sums c"), desk.kept_names), ("- | 1 | 1 | -", ("x",)))
        self.assertEqual(desk.run("begin 4", "message", "send", "message"), ["ok", "r=0 m=0 c=15", "ok", "r=0 m=0 c=15"])

    def test_a_new_message_keeps_the_chain(self):
        desk = desk_of(*MESSAGE, "mend box c m n eager", "begin 4 m=1")
        self.assertEqual(desk.run("send n=6", "message"), ["ok", "r=0 m=6 c=9"])

    def test_chains(self):
        desk = desk_of(*MESSAGE, *CHAIN)
        layout = Layout(["r", "m"], [("c", "r", "m")])
        chain = Chain(Mend("box", "c", "m", "n", sort="eager"), Look("eye", Saying.read("~isempty(n)")), Anew("sum", layout, "c"))
        for before in Receiver.WORDS:
            for behind in Receiver.WORDS:
                wanted = str(lost(chain, layout, Receiver.of(before), Receiver.of(behind), "c"))
                self.assertEqual(desk.say(f"lost {before} {behind} c"), wanted)
        self.assertEqual(desk.run("send n=6", "message"), ["ok", "r=9 m=6 c=0"])
        raised(self, Dropped, lambda: desk.say("send n=0"), name="eye")
        self.assertEqual(desk.run("boxes", "send n=0", "message", "lost sums compares c"), ["ok", "ok", "r=9 m=6 c=0", "- | 1 | 1 | 1"])
        self.assertEqual(desk.run("mend box c m n careful", "send n=1", "message"), ["ok", "ok", "r=9 m=1 c=5"])
        self.assertEqual(desk.run("boxes", "mend a m r r eager", "send", "message"), ["ok", "ok", "ok", "r=9 m=1 c=5"])

    def test_boxes_of_names_that_the_layout_lacks(self):
        desk = desk_of(*MESSAGE, "mend box d e n eager")
        raised(self, NoWord, lambda: desk.say("send n=1"), name="d")
        raised(self, NoWord, lambda: desk.say("lost sums sums c"), name="d")
        raised(self, NoWord, lambda: desk.say("anew sum d"), name="d")

    def test_sending_does_not_touch_older_messages(self):
        desk = desk_of(*MESSAGE, "mend box c m n eager", "send n=6", "set r 1", "renew", "undo", "undo", "undo")
        self.assertEqual(desk.say("message"), "r=9 m=8 c=13")


class Questions(unittest.TestCase):
    def test_values(self):
        desk = Desk()
        self.assertEqual(desk.run("value 4 a=9 b=8 : a + b", "value 1 : full", "value 64 : 0", "value 3 x=9 : 5"),
                         ["0010", "1", "0" * 64, "101"])
        self.assertEqual(desk.run("holds 4 a=9 : isempty(a)", "holds 4 a=0 : isempty(a)", "holds 2 : yes", "holds 2 : no"),
                         ["no", "yes", "yes", "no"])

    def test_counts(self):
        desk = Desk()
        self.assertEqual(desk.run("count 2 : like(a, 0)", "count 400 : yes", "count 4 : no", "count 3 : isempty(a) | isempty(b)"),
                         ["2", "1", "0", "15"])
        self.assertEqual(desk.say("count 400 : like(a + b, 1) | yes"), str(2 ** 800))

    def test_examples(self):
        desk = Desk()
        self.assertEqual(desk.run("example 4 : isempty(b) & isfull(a)", "example 4 : isempty(a) & isfull(a)"), ["a=15 b=0", "none"])
        self.assertEqual(desk.run("example 4 : yes", "example 4 : no", "example 5040 : isempty(full)"), ["any", "none", "none"])
        self.assertEqual(desk.say("example 3 : isfull(z) & isempty(b) & isfull(m)"), "b=0 m=7 z=7")
        far = desk.say("example 5040 : isfull(a)")
        self.assertEqual(far, f"a={2 ** 5040 - 1}")

    def test_sets_of_widths(self):
        desk = Desk()
        for text in ("same(~(x + x + x), 3 * ~x)", "isfull(x + 5)", "yes", "no", "like(3 * a, 0) & ~like(a, 0)"):
            saying = Saying.read(text)
            self.assertEqual(desk.run(f"always {text}", f"sometimes {text}"), [str(always(saying)), str(sometimes(saying))])
        self.assertEqual(desk.say("compare ~(x + x + x) : 3 * ~x"), "- | 1 | 2 | 1 ; - | 1 | 2 | 2 ; - | 1 | 1 | -")
        self.assertEqual(desk.say("compare a : b"), "- | 1 | 1 | - ; 1 | 2 | 1 | - ; - | 2 | 1 | 1")

    def test_they_change_nothing(self):
        desk = desk_of("formula two = a + a", *MESSAGE, *CHAIN)
        before = state_of(desk)
        for line in QUESTIONS:
            self.assertEqual(type(desk.say(line)), str)
            self.assertEqual(state_of(desk), before)


class Undo(unittest.TestCase):
    def test_each_sort_of_line(self):
        desk = Desk()
        states = [state_of(desk)]
        for line in CHANGES:
            self.assertEqual(desk.say(line), "ok")
            states.append(state_of(desk))
            self.assertEqual(len(desk), len(states) - 1)
        for state in states[-2::-1]:
            self.assertEqual(desk.say("undo"), "ok")
            self.assertEqual(state_of(desk), state)
        for _ in range(2):
            self.assertEqual(desk.say("undo"), "nothing")
            self.assertEqual(state_of(desk), states[0])

    def test_changes_behind_what_was_taken_back(self):
        desk = desk_of(*MESSAGE, "set r 1", "undo", "set r 2", "set r 3", "undo")
        self.assertEqual((desk.say("message"), len(desk)), ("r=2 m=8 c=13", 3))
        self.assertEqual(desk.run("undo", "message", "undo", "undo", "undo"), ["ok", "r=9 m=8 c=13", "ok", "ok", "nothing"])

    def test_many_changes(self):
        desk = desk_of("layout r : c r", "begin 60", *[f"set r {number}" for number in range(300)])
        self.assertEqual(len(desk), 302)
        for number in range(298, -1, -1):
            self.assertEqual(desk.run("undo", "message")[1].split()[0], f"r={number}")
        self.assertEqual(len(desk), 3)

    def test_lines_that_leave_all_as_it_was_count_too(self):
        desk = desk_of(*MESSAGE, "boxes", "renew", "set r 9", "send", "formula a = a", "formula a = a")
        self.assertEqual(len(desk), 8)


class Run(unittest.TestCase):
    def test_answers(self):
        desk = Desk()
        self.assertEqual(desk.run(), [])
        self.assertEqual(desk.run("formula a = b", "show a", "undo", "undo"), ["ok", "b", "ok", "nothing"])

    def test_all_or_none(self):
        for wrong, error in (("set x 1", NoWord), ("nonsense", BadLine), (None, BadLine), ("set r 16", BadWord), ("begin 0", BadWidth)):
            desk = desk_of("formula two = a + a", *MESSAGE, "set r 1", "undo")
            before = state_of(desk)
            for lines in (
                ("set r 3", wrong), (wrong,), ("undo", "undo", "undo", wrong), (*CHAIN, "send n=6", "undo", "set m 1", wrong, "set m 2"),
                ("layout a : c a", "undo", "undo", "undo", "undo", "undo", wrong), ("forget two", "formula x = y", wrong),
            ):
                with self.assertRaises((error, BadLine)):
                    desk.run(*lines)
                self.assertEqual(state_of(desk), before)
            self.assertEqual(desk.run("undo", "undo", "undo", "undo"), ["ok", "ok", "ok", "nothing"])

    def test_the_error_goes_on(self):
        desk = Desk()
        raised(self, NoWord, lambda: desk.run("formula a = b", "show b", 7), name="b")
        raised(self, BadLine, lambda: desk.run("formula a = b", 7, "show b"))
        self.assertEqual((len(desk), desk.kept_names), (0, ()))


class Errors(unittest.TestCase):
    def setUp(self):
        self.desk = desk_of("formula two = a + a", *MESSAGE, *CHAIN)

    def wrong(self, line, error, **attributes):
        before = state_of(self.desk)
        raised(self, error, lambda: self.desk.say(line), **attributes)
        self.assertEqual(state_of(self.desk), before)

    def test_of_the_functions(self):
        for line, error, attributes in (
            ("layout r r : c r", BadLayout, {"part": "words", "at": 1}), ("layout a b d e f g h : c a", BadLayout, {"part": "words", "at": None}),
            ("layout a : c a : c a", BadLayout, {"part": "checks", "at": 1}), ("layout a : c b", BadLayout, {"part": "checks", "at": 0}),
            ("layout a : c 16", BadLayout, {"part": "checks", "at": 0}), ("layout a : c 0", BadLayout, {"part": "checks", "at": 0}),
            ("layout a : c a : d a : e a : f a : g a", BadLayout, {"part": "checks", "at": None}),
            ("layout a : c 3 4", BadLayout, {"part": "checks", "at": 0}), ("layout a : a a", BadLayout, {"part": "checks", "at": 0}),
            ("begin 0", BadWidth, {"width": 0}), ("begin 65 x=1", BadWidth, {"width": 65}), ("begin 4 z=1 x=99", NoWord, {"name": "x"}),
            ("begin 4 c=17 m=16", BadWord, {"value": 16}), ("set x 99", NoWord, {"name": "x"}), ("set r 16", BadWord, {"value": 16}),
            ("renew r", NoWord, {"name": "r"}), ("renew x", NoWord, {"name": "x"}), ("anew sum r", NoWord, {"name": "r"}),
            ("send", NoWord, {"name": "n"}), ("send n=16", BadWord, {"value": 16}), ("send n=0", Dropped, {"name": "eye"}),
            ("value 0 : two", BadWidth, {"width": 0}), ("value 65 : two", BadWidth, {"width": 65}), ("value 4 b=1 : two", NoWord, {"name": "a"}),
            ("value 4 a=16 : two", BadWord, {"value": 16}), ("holds 0 : yes", BadWidth, {"width": 0}),
            ("holds 4 : isempty(b)", NoWord, {"name": "b"}), ("holds 4 a=99 : isempty(a)", BadWord, {"value": 99}),
            ("count 0 : yes", BadWidth, {"width": 0}), ("count 401 : yes", BadWidth, {"width": 401}),
            ("example 0 : yes", BadWidth, {"width": 0}), ("example 5041 : yes", BadWidth, {"width": 5041}),
            ("takes sums r", NoWord, {"name": "r"}), ("lost sums sums r", NoWord, {"name": "r"}),
            ("always isempty(a + b + c + d + e + f + g)", TooLarge, {"what": "names", "most": 6}),
            ("sometimes isempty(a + b + c + d + e + f + g)", TooLarge, {"what": "names", "most": 6}),
            ("count 0 : isempty(a + b + c + d + e + f + g)", TooLarge, {"what": "names", "most": 6}),
            ("compare a + b + c + d : e + f + g", TooLarge, {"what": "names", "most": 6}),
            ("show x", NoWord, {"name": "x"}), ("forget x", NoWord, {"name": "x"}), ("show a", NoWord, {"name": "a"}),
        ):
            with self.subTest(line=line):
                self.wrong(line, error, **attributes)

    def test_a_far_number(self):
        self.wrong("set r " + "9" * 31, BadWord, value=int("9" * 31))
        self.wrong("begin " + "9" * 31, BadWidth, width=int("9" * 31))

    def test_what_lacks(self):
        empty = Desk()
        large = desk_of("formula a = " + " + ".join(["a"] * 30))
        for desk in (empty, large):
            for line in ("begin 4", "begin 0 r=1", "mend box c m n eager", "look eye isempty(a + a)", "anew sum c", "boxes", "lost sums sums c",
                         "set r 1", "renew", "renew c", "send", "send n=1", "message", "takes sums c"):
                raised(self, BadLine, lambda: desk.say(line))
            self.assertIn(len(desk), (0, 1))
        half = desk_of("layout r m : c r m")
        for line in ("set x 1", "renew", "renew x", "send", "message", "takes sums x"):
            raised(self, BadLine, lambda: half.say(line))
        self.assertEqual(half.run("boxes", "mend box c m n eager", "lost sums sums c")[:2], ["ok", "ok"])
        half.run("begin 4", "undo")
        raised(self, BadLine, lambda: half.say("message"))

    def test_the_form_is_asked_first(self):
        for line in ("show x y", "look eye isempty(a", "begin 04", "set x -1", "takes all c", "lost sums sum r"):
            self.wrong(line, BadLine)

    def test_no_lines(self):
        for value in no_integers() + [0, 1, "", " ", "ok", ("undo",), ["undo"]]:
            self.wrong(value, BadLine)

    def test_equal(self):
        desk = Desk()
        self.assertTrue(desk == desk)
        for value in no_integers() + [0, Desk(), Desk]:
            self.assertIs(desk == value, False)


if __name__ == "__main__":
    unittest.main()
