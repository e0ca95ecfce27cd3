"""Boxes: what looks at a message and writes over parts of it."""

from twozeros.errors import BadBox, BadSaying, Dropped, NoWord
from twozeros.formulas import Formula, is_name, named, plain_value
from twozeros.messages import Message
from twozeros.sayings import Saying, holds_with, yes
from twozeros.words import checked_values


class Box:
    """A test and a row of writes, pairs of a target and a formula; no box ever changes."""

    def __init__(self, name, *writes):
        self._hold(name, yes(), checked_writes(writes))

    @classmethod
    def of(cls, name, writes):
        """The box with these writes, a list or tuple."""
        return cls(name, *writes)

    @property
    def names(self):
        """All names in it, ascending."""
        return self._names

    def __call__(self, message, news):
        layout, width = message.layout, message.width
        check_targets((self,), layout)
        plain = checked_values(width, new_names((self,), layout), news)
        for name, value in message.plain_words().items():
            plain[name] = value
        if not holds_with(self.test, width, plain):
            raise Dropped(self.name)
        for target, formula in self.writes:
            plain[target] = plain_value(formula, width, plain)
        return Message(layout, width, {name: plain[name] for name in layout.names})

    def __eq__(self, other):
        return (
            isinstance(other, Box) and self.name == other.name and self.test == other.test
            and self.writes == other.writes
        )

    def _hold(self, name, test, writes):
        """Set what every box has; a box of several classes would not reach all of their beginnings alike."""
        self.name = name
        self.test = test
        self.writes = writes
        rows = [test.names] + [(target, *formula.names) for target, formula in writes]
        found = {part: True for row in rows for part in row}
        self._names = tuple(sorted(found, key=str))


class Look(Box):
    """A box with a test of its own."""

    def __init__(self, name, test, *writes):
        self._hold(name, checked_test(test), checked_writes(writes))


class Mend(Box):
    """A box that writes a new word over a word and mends a check."""

    def __init__(self, name, check, word, new, *, sort="careful"):
        self._hold(name, yes(), mend_writes(check, word, new, sort))


class LookMend(Look, Mend):
    """A box that looks, then mends."""

    def __init__(self, name, test, check, word, new, *, sort="careful"):
        self._hold(name, checked_test(test), mend_writes(check, word, new, sort))


class Anew(Box):
    """A box that sums a check anew."""

    def __init__(self, name, layout, check):
        self._hold(name, yes(), ((check, layout.fresh(check)),))


def checked_writes(writes):
    """The writes, any values, if each is a tuple of a name and a formula."""
    for at, write in enumerate(writes):
        if not is_write(write):
            raise BadBox(at)
    return writes


def is_write(write):
    """Whether any value is a tuple of a name and a formula."""
    if not isinstance(write, tuple) or len(write) != 2:
        return False
    return is_name(write[0]) and isinstance(write[1], Formula)


def checked_test(test):
    """The test, any value, if it is a saying."""
    if not isinstance(test, Saying):
        raise BadSaying(test)
    return test


def mend_writes(check, word, new, sort):
    """The two writes of a mend; all four may be any values."""
    own, old, coming = named(check), named(word), named(new)
    if sort == "careful":
        return (check, ~(~own + ~old + coming)), (word, coming)
    if sort == "eager":
        return (check, own + old + ~coming), (word, coming)
    raise BadBox(0)


def check_targets(boxes, layout):
    """Raise an error if the boxes write to a name that is none of the layout's."""
    lacking = [target for box in boxes for target, _ in box.writes if target not in layout.names]
    if lacking:
        raise NoWord(min(lacking, key=str))


def new_names(boxes, layout):
    """The names in the boxes that are none of the layout's, ascending."""
    found = {name: True for box in boxes for name in box.names if name not in layout.names}
    return tuple(sorted(found, key=str))
