"""Layouts: which words and checks messages have, and what each check covers."""

from twozeros.errors import BadLayout, NoWord
from twozeros.formulas import MOST_NUMBER, full, is_name, named, number
from twozeros.kinds import is_from, is_whole

MOST_WORDS = 6
MOST_CHECKS = 4


class Layout:
    """The names of words, and checks with their members; no layout ever changes."""

    def __init__(self, words, checks):
        check_words(words)
        check_checks(words, checks)
        self.words = tuple(words)
        self.checks = tuple(checks)
        self.check_names = tuple([row[0] for row in self.checks])
        self._names = self.words + self.check_names

    @property
    def names(self):
        """The names of the words, then of the checks."""
        return self._names

    def covered(self, check):
        """The formula of the sum of a check's members."""
        first, *others = [member_formula(member) for member in members_of(self, check)]
        so_far = first
        for part in others:
            so_far = so_far + part
        return so_far

    def fresh(self, check, *, never_empty=False):
        """The formula of what a check is set to, by the words and checks of that moment."""
        complement = ~self.covered(check)
        return complement + full() if never_empty else complement

    def flat(self, check):
        """The formula of a fresh check by the words alone, if all checks that it covers are fresh."""
        members = members_of(self, check)
        earlier = [member for member in members if member in self.check_names]
        return self.fresh(check).replaced({name: self.flat(name) for name in earlier})

    def __eq__(self, other):
        return isinstance(other, Layout) and self.words == other.words and self.checks == other.checks


def check_words(words):
    """Raise an error if words, any value, are not the names of words."""
    check_many("words", words, MOST_WORDS)
    for at, name in enumerate(words):
        if not is_name(name) or name in words[:at]:
            raise BadLayout("words", at)


def check_checks(words, checks):
    """Raise an error if checks, any value, are not checks beside these words."""
    check_many("checks", checks, MOST_CHECKS)
    known = list(words)
    for at, row in enumerate(checks):
        if not is_check(row, known):
            raise BadLayout("checks", at)
        known.append(row[0])


def check_many(part, rows, most):
    """Raise an error if any value is not a list or tuple of one to so many items."""
    if not isinstance(rows, (list, tuple)) or not 1 <= len(rows) <= most:
        raise BadLayout(part, None)


def is_check(row, known):
    """Whether any value is a new name with one or more members, beside these known names."""
    if not isinstance(row, tuple) or len(row) < 2:
        return False
    return is_name(row[0]) and row[0] not in known and are_members(row[1:], known)


def are_members(members, known):
    """Whether these values are known names, each once, and one integer at most."""
    integers = [member for member in members if is_whole(member)]
    names = [member for member in members if not is_whole(member)]
    if len(integers) > 1 or not all([is_from(member, 1, MOST_NUMBER) for member in integers]):
        return False
    return all([name in known and name not in names[:at] for at, name in enumerate(names)])


def members_of(layout, check):
    """What a check, any value, covers."""
    if check not in layout.check_names:
        raise NoWord(check)
    return layout.checks[layout.check_names.index(check)][1:]


def member_formula(member):
    """The formula that a member is."""
    return number(member) if is_whole(member) else named(member)
