"""Which texts are lines of a desk: each line spoiled at any word."""

import unittest

from tests.values import raised
from twozeros.desk import Desk
from twozeros.errors import BadLine, ZerosError
from twozeros.formulas import Formula
from twozeros.sayings import Saying

LINES = (
    "formula two = a + a", "formula a = 3", "saying odd = isempty(a) & ~no", "saying s = yes", "forget two", "layout r m : c r m",
    "layout a : c a 3 : d 15 c", "begin 4", "begin 4 r=9 m=0", "set r 9", "set c 0", "renew", "renew c", "mend box c m n eager",
    "mend box c m n careful", "look eye isempty(a) | no", "anew sum c", "boxes", "send", "send n=6 p=0", "undo",
    "value 4 : 3", "value 4 a=9 b=8 : a + b", "holds 4 : yes", "holds 4 a=9 : isempty(a)", "count 4 : isempty(a)",
    "example 4 : isempty(a) & isfull(b)", "always same(a, a)", "sometimes isempty(a + b)", "compare a + b : 2 * a", "show two",
    "message", "takes sums c", "takes compares c", "lost sums rests c", "lost spares spares c",
)
KEPT = ("formula two = a + a", "layout r m : c r m", "begin 4 r=9 m=8")


def desk():
    made = Desk()
    made.run(*KEPT)
    return made


def is_line(text):
    """Whether a text is built as a line, by the plainest reading of the document."""
    word, *rest = text.split(" ")
    parts = split_at_colons(rest)
    forms = {
        "forget": lambda: one(rest, is_name), "show": lambda: one(rest, is_name), "undo": lambda: not rest, "boxes": lambda: not rest,
        "message": lambda: not rest, "renew": lambda: not rest or one(rest, is_name), "send": lambda: is_given(rest),
        "formula": lambda: kept(rest, is_formula), "saying": lambda: kept(rest, is_saying),
        "begin": lambda: is_number(rest[0]) and is_given(rest[1:]),
        "set": lambda: len(rest) == 2 and is_name(rest[0]) and is_number(rest[1]),
        "mend": lambda: len(rest) == 5 and all(map(is_name, rest[:4])) and rest[4] in ("eager", "careful"),
        "look": lambda: is_name(rest[0]) and is_saying(" ".join(rest[1:])),
        "anew": lambda: len(rest) == 2 and all(map(is_name, rest)),
        "layout": lambda: len(parts) > 1 and parts[0] and all(map(is_name, parts[0])) and all(map(is_check, parts[1:])),
        "value": lambda: len(parts) == 2 and is_number(parts[0][0]) and is_given(parts[0][1:]) and is_formula(" ".join(parts[1])),
        "holds": lambda: len(parts) == 2 and is_number(parts[0][0]) and is_given(parts[0][1:]) and is_saying(" ".join(parts[1])),
        "count": lambda: len(parts) == 2 and one(parts[0], is_number) and is_saying(" ".join(parts[1])),
        "example": lambda: len(parts) == 2 and one(parts[0], is_number) and is_saying(" ".join(parts[1])),
        "always": lambda: is_saying(" ".join(rest)), "sometimes": lambda: is_saying(" ".join(rest)),
        "compare": lambda: len(parts) == 2 and all(is_formula(" ".join(part)) for part in parts),
        "takes": lambda: len(rest) == 2 and is_sort(rest[0]) and is_name(rest[1]),
        "lost": lambda: len(rest) == 3 and is_sort(rest[0]) and is_sort(rest[1]) and is_name(rest[2]),
    }
    try:
        return bool(word in forms and forms[word]())
    except IndexError:
        return False


def split_at_colons(words):
    parts = [[]]
    for word in words:
        if word == ":":
            parts.append([])
        else:
            parts[-1].append(word)
    return parts


def one(words, test):
    return len(words) == 1 and test(words[0])


def kept(words, test):
    return is_name(words[0]) and words[1] == "=" and test(" ".join(words[2:]))


def is_name(word):
    lower = all("a" <= letter <= "z" for letter in word)
    return lower and 1 <= len(word) <= 6 and word not in ("full", "same", "like", "isempty", "isfull", "yes", "no")


def is_number(word):
    return word.isascii() and word.isdigit() and len(word) <= 31 and str(int(word)) == word


def is_given(words):
    pairs = [word.split("=") for word in words]
    return all(len(pair) == 2 and is_name(pair[0]) and is_number(pair[1]) for pair in pairs) and \
        len({pair[0] for pair in pairs}) == len(pairs)


def is_check(words):
    return len(words) > 1 and is_name(words[0]) and all(is_name(word) or is_number(word) for word in words[1:])


def is_sort(word):
    return word in ("sums", "rests", "compares", "spares")


def is_formula(text):
    try:
        return bool(Formula.read(text))
    except ZerosError:
        return False


def is_saying(text):
    try:
        return bool(Saying.read(text))
    except ZerosError:
        return False


def spoiled(line):
    """The line with a word left out, told twice, exchanged, changed; with blanks, colons and letters in other places."""
    words = line.split(" ")
    for at in range(len(words)):
        yield words[:at]
        yield words[at:]
        ahead, word, behind = words[:at], words[at], words[at + 1:]
        yield ahead + behind
        yield ahead + [word, word] + behind
        for other in ("x", ":", "=", "7", "0", "00", "09", "-1", "+1", "r=1", "r=01", "r==1", "=1", "r=", "r=1=1", "R=1", "1r", "full",
                      "yes", "eager", "sums", "undo", "abcdefg", "1" * 31, "1" * 32, "0" * 31, "", "a:", ":a", "::", "x,", "(x)", "~x",
                      "1_0", "\u0662", "\u00b2", "1.0", "a\n", "\ta", "isempty(a)", "a & b", "x="):
            yield ahead + [other] + behind
            yield ahead + [word, other] + behind
        for changed in (word.upper(), word.capitalize(), word + ":", ":" + word, word + " ", " " + word, word + "\n", "0" + word,
                        word[1:], word[:-1], word * 2, word.replace("=", " = "), word.replace("=", " =")):
            yield ahead + [changed] + behind
        if behind:
            yield ahead + [behind[0], word] + behind[1:]
    yield [*words, ""]
    yield ["", *words]


class Lines(unittest.TestCase):
    def test_right_lines(self):
        for line in LINES:
            self.assertTrue(is_line(line), line)
            self.assertEqual(type(desk().say(line)), str)

    def test_spoiled_lines(self):
        texts = {" ".join(words) for line in LINES for words in spoiled(line)}
        told = refused = 0
        first = desk()
        for text in sorted(texts):
            before = len(first), first.kept_names, first.say("message")
            if not is_line(text):
                raised(self, BadLine, lambda: first.say(text))
                self.assertEqual((len(first), first.kept_names, first.say("message")), before)
                refused += 1
                continue
            told += 1
            try:
                self.assertEqual(type(desk().say(text)), str)
            except BadLine:
                self.fail(text)
            except ZerosError:
                continue
        self.assertGreater(refused, 5000)
        self.assertGreater(told, 500)

    def test_numbers(self):
        made = desk()
        for text, wanted in (("0", "r=0"), ("1", "r=1"), ("10", "r=10"), ("15", "r=15")):
            self.assertEqual(made.run(f"set r {text}", "message")[1].split()[0], wanted)
        for text in ("00", "01", "007", "1" * 32, "+1", "-0", "1.", "1e1", "0x1", "1 0", "\u0661", "\uff11", "\u00b9", "1_0", ""):
            raised(self, BadLine, lambda: made.say(f"set r {text}"))

    def test_names(self):
        made = desk()
        for name in ("a", "abcdef", "rest", "set", "undo", "eager", "layout", "sums"):
            self.assertEqual(made.run(f"formula {name} = b", f"show {name}", f"forget {name}"), ["ok", "b", "ok"])
        for name in ("full", "same", "like", "isempty", "isfull", "yes", "no", "A", "aB", "abcdefg", "a1", "a_", "", "\u00e9", "="):
            for line in (f"formula {name} = b", f"show {name}", f"forget {name}", f"saying {name} = yes", f"renew {name}"):
                raised(self, BadLine, lambda: made.say(line))

    def test_colons(self):
        made = desk()
        self.assertEqual(made.say("value 4 : 3"), "0011")
        for line in ("value 3 : (a)", "value 3: a", "value 3 :a", "value 3 a", "value 3 : a : a", "value 3 ::", "value 3 :", "value : 3",
                     "count 2: yes", "count 2 yes", "compare a", "compare a : ", "compare : a", "compare a :: a", "compare a : a : a",
                     "always : yes", "always yes :", "send :", "begin 4 :", "layout a c", "layout a :", "layout : c a", "layout a : c",
                     "layout a : c a :", "layout a : : c a", "layout a 3 : c a", "layout a : 3 c", "layout a:c a", "layout", "layout a : c a b=1"):
            raised(self, BadLine, lambda: made.say(line))

    def test_given(self):
        made = desk()
        self.assertEqual(made.run("begin 4 r=1 m=2", "begin 4 m=2 r=1", "message"), ["ok", "ok", "r=1 m=2 c=12"])
        for given in ("r=1 r=1", "r=1 m=2 r=3", "r= 1", "r =1", "r = 1", "r=1,m=2", "=1", "r=", "r", "1=r", "r=a", "full=1", "r=1=1", "r=-1"):
            for line in (f"begin 4 {given}", f"send {given}", f"value 4 {given} : a", f"holds 4 {given} : yes"):
                raised(self, BadLine, lambda: made.say(line))


if __name__ == "__main__":
    unittest.main()
