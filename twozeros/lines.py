"""Lines of a desk: how they are built, and what their words stand for."""

from twozeros.errors import BadLine
from twozeros.formulas import found_formula, is_name
from twozeros.receivers import Receiver
from twozeros.sayings import found_saying
from twozeros.steps import DIGITS

MOST_DIGITS = 31
MENDING = ("eager", "careful")

# What follows the first word of a line, part by part. A colon and = stand for themselves.
SHAPES = {
    "formula": ("NAME", "=", "FORMULA"),
    "saying": ("NAME", "=", "SAYING"),
    "forget": ("NAME",),
    "layout": ("NAMES", "CHECKS"),
    "begin": ("NUMBER", "GIVEN"),
    "set": ("NAME", "NUMBER"),
    "renew": ("MAYBE",),
    "mend": ("NAME", "NAME", "NAME", "NAME", "SORT2"),
    "look": ("NAME", "SAYING"),
    "anew": ("NAME", "NAME"),
    "boxes": (),
    "send": ("GIVEN",),
    "undo": (),
    "value": ("NUMBER", "GIVEN", ":", "FORMULA"),
    "holds": ("NUMBER", "GIVEN", ":", "SAYING"),
    "count": ("NUMBER", ":", "SAYING"),
    "example": ("NUMBER", ":", "SAYING"),
    "always": ("SAYING",),
    "sometimes": ("SAYING",),
    "compare": ("FORMULA", ":", "FORMULA"),
    "show": ("NAME",),
    "message": (),
    "takes": ("SORT", "NAME"),
    "lost": ("SORT", "SORT", "NAME"),
}
TO_A_COLON = ("FORMULA", "SAYING", "GIVEN", "NAMES")
TO_THE_END = ("CHECKS", "MAYBE")


def read_line(line):
    """The first word of a line, any value, and what its parts stand for."""
    if not isinstance(line, str):
        raise BadLine()
    words = line.split(" ")
    word = words[0]
    if word not in SHAPES:
        raise BadLine()
    parts = []
    at = 1
    for part in SHAPES[word]:
        end = part_end(part, words, at)
        read_part(part, words[at:end], parts)
        at = end
    if at < len(words):
        raise BadLine()
    return word, parts


def part_end(part, words, at):
    """Where a part of a line ends that begins at this word."""
    if part in TO_THE_END:
        return len(words)
    if part not in TO_A_COLON:
        return at + 1
    return at + words[at:].index(":") if ":" in words[at:] else len(words)


def read_part(part, words, parts):
    """Put behind the parts what these words stand for; a colon and = stand for nothing."""
    if part not in READERS:
        if words != [part]:
            raise BadLine()
        return
    reader = READERS[part]
    found = reader(words)
    if found is None:
        raise BadLine()
    parts.append(found)


def read_name(words):
    """The name that the words are, None if they are none; so, too, for the parts below."""
    return words[0] if len(words) == 1 and is_name(words[0]) else None


def read_names(words):
    return words if words and all([is_name(word) for word in words]) else None


def read_maybe(words):
    return words if not words or read_name(words) is not None else None


def read_number(words):
    return int(words[0]) if len(words) == 1 and is_number(words[0]) else None


def read_given(words):
    found = {}
    for word in words:
        name, _, text = word.partition("=")
        if not is_name(name) or not is_number(text) or name in found:
            return None
        found[name] = int(text)
    return found


def read_formula(words):
    return found_formula(" ".join(words))


def read_saying(words):
    return found_saying(" ".join(words))


def read_receiver(words):
    return Receiver.of(words[0]) if len(words) == 1 and words[0] in Receiver.WORDS else None


def read_mending(words):
    return words[0] if len(words) == 1 and words[0] in MENDING else None


def read_checks(words):
    """Tuples of a name and its members, each behind a colon, which is also the first word if there is any."""
    found = []
    for word in words:
        if word == ":":
            found.append([])
        elif is_name(word):
            found[-1].append(word)
        elif found[-1] and is_number(word):
            found[-1].append(int(word))
        else:
            return None
    return [tuple(row) for row in found] if found and all([len(row) > 1 for row in found]) else None


def is_number(text):
    """Whether a text is a number as lines write it."""
    if not 1 <= len(text) <= MOST_DIGITS or not all([letter in DIGITS for letter in text]):
        return False
    return text == "0" or text[0] != "0"


READERS = {
    "NAME": read_name, "NAMES": read_names, "MAYBE": read_maybe, "NUMBER": read_number, "GIVEN": read_given,
    "FORMULA": read_formula, "SAYING": read_saying, "SORT": read_receiver, "SORT2": read_mending,
    "CHECKS": read_checks,
}
