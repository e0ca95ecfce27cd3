"""Rings: checks that cover contents, one another and themselves."""

from math import comb

from twozeros.errors import BadRing, NoWord, TooLarge
from twozeros.formulas import is_name, named
from twozeros.kinds import is_from
from twozeros.sayings import all_of, holds_with, is_full, same
from twozeros.stairs import coded, decoded, listed, solutions
from twozeros.tables import sometimes, table, widths_with
from twozeros.weighing import subsets
from twozeros.words import checked_value, checked_width, most_value

MOST_RING_CHECKS = 3
MOST_RING_NAMES = 5
MOST_TIMES_ADDED = 9
MOST_SOLVING = 64


class Ring:
    """Contents, and checks with what they cover and how they are wished to be; no ring ever changes."""

    def __init__(self, contents, covers, *, summed=()):
        check_contents(contents)
        check_covers(contents, covers)
        self.contents = contents
        self.covers = tuple(covers)
        self.checks = tuple([check for check, _ in self.covers])
        check_totals(self)
        check_summed(summed, self.checks)
        self.summed = summed
        wishes = [self.wish(check) for check in self.checks]
        self._fits = all_of(*wishes)
        self._layers = found_layers(self)

    @property
    def fits(self):
        """All wishes are true."""
        return self._fits

    @property
    def layers(self):
        """Checks that cover none, then those that cover only checks ahead, and so on; None if that does not end."""
        return self._layers

    def sum_of(self, check):
        """The formula of a check's total."""
        first, *others = [named(name) if times == 1 else times * named(name) for name, times in cover_of(self, check)]
        so_far = first
        for part in others:
            so_far = so_far + part
        return so_far

    def wish(self, check):
        """What is wished of a check."""
        covered = self.sum_of(check)
        return is_full(covered + named(check)) if check in self.summed else same(named(check), ~covered)

    def __eq__(self, other):
        return (
            isinstance(other, Ring) and self.contents == other.contents and self.covers == other.covers
            and self.summed == other.summed
        )


def fillings(ring, width, words):
    """All rows of words for the checks that fit these words of the contents."""
    plain = content_values(ring, width, words)
    constants = [sum([times * plain.get(name, 0) for name, times in cover]) for _, cover in ring.covers]
    systems = [(empties, system_rows(ring, empties)) for empties in subsets(list(ring.checks))]
    for _, rows in systems:
        if solutions(rows, constants, width) > MOST_SOLVING:
            raise TooLarge("fillings", MOST_SOLVING)
    many, found = len(ring.checks), []
    for empties, rows in systems:
        for rests in listed(rows, constants, width):
            filling = filling_with(ring, empties, rests, most_value(width))
            if fits_at(ring, width, plain, filling):
                found.append(coded(filling, 1 << width))
    return [tuple(decoded(code, many, 1 << width)) for code in sorted(found, key=int)]


def fills(ring, width, words, filling):
    """Whether any value is a filling for these words of the contents."""
    plain = content_values(ring, width, words)
    if not isinstance(filling, tuple) or len(filling) != len(ring.checks):
        return False
    if not all([is_from(value, 0, most_value(width)) for value in filling]):
        return False
    return fits_at(ring, width, plain, filling)


def unique(ring):
    """The widths at which no words of the contents have two fillings."""
    if len(ring.checks) > 1:
        raise TooLarge("checks", 1)
    check, other = ring.checks[0], unknown_name(ring)
    second = ring.fits.replaced({check: named(other)})
    return ~sometimes(ring.fits & second & ~same(named(check), named(other)))


def exact(ring):
    """The widths at which all words of the contents have just one filling."""
    alone = unique(ring)
    # A content that is in no cover takes no part in the wishes, and multiplies both numbers of rows alike.
    many = len([name for name in ring.contents if name in ring.fits.names])
    return alone & widths_with(table(ring.fits), [tuple([comb(many, power) for power in range(many + 1)])])


def check_contents(contents):
    """Raise an error if contents, any value, are not names."""
    if not isinstance(contents, tuple) or not contents:
        raise BadRing("contents", 0)
    for at, name in enumerate(contents):
        if not is_name(name) or name in contents[:at]:
            raise BadRing("contents", at)


def check_covers(contents, covers):
    """Raise an error if covers, any value, do not give new names something each, or there are too many names."""
    if not isinstance(covers, (list, tuple)) or not 1 <= len(covers) <= MOST_RING_CHECKS:
        raise BadRing("covers", 0)
    known = list(contents)
    for at, pair in enumerate(covers):
        if not is_pair(pair) or not is_name(pair[0]) or pair[0] in known:
            raise BadRing("covers", at)
        known.append(pair[0])
    if len(known) > MOST_RING_NAMES:
        raise BadRing("names", len(known))


def check_totals(ring):
    """Raise an error if what a check covers, any value, is not a row of names and how often they are added."""
    for at, pair in enumerate(ring.covers):
        if not is_cover(pair[1], ring.contents + ring.checks):
            raise BadRing("total", at)


def check_summed(summed, checks):
    """Raise an error if summed, any value, is not a tuple of checks."""
    if not isinstance(summed, tuple):
        raise BadRing("summed", 0)
    for at, name in enumerate(summed):
        if name not in checks or name in summed[:at]:
            raise BadRing("summed", at)


def is_pair(value):
    """Whether any value is a tuple of two."""
    return isinstance(value, tuple) and len(value) == 2


def is_cover(cover, known):
    """Whether any value is a row of pairs of known names, each once, and how often they are added."""
    if not isinstance(cover, tuple) or not cover or not all([is_pair(part) for part in cover]):
        return False
    if not all([name in known and is_from(times, 1, MOST_TIMES_ADDED) for name, times in cover]):
        return False
    return len({name: True for name, _ in cover}) == len(cover)


def cover_of(ring, check):
    """What a check, any value, covers."""
    if check not in ring.checks:
        raise NoWord(check)
    return ring.covers[ring.checks.index(check)][1]


def found_layers(ring):
    """The layers of the checks, None if some check covers itself, directly or through others."""
    layers = []
    left = ring.checks
    while left:
        layer = [check for check in left if not [name for name, _ in cover_of(ring, check) if name in left]]
        if not layer:
            return None
        layers.append(tuple(layer))
        left = tuple([check for check in left if check not in layer])
    return tuple(layers)


def content_values(ring, width, words):
    """A dict from the contents to the values of their words."""
    checked_width(width)
    for name in ring.contents:
        if name not in words:
            raise NoWord(name)
    return {name: checked_value(width, words[name]) for name in ring.contents}


def system_rows(ring, empties):
    """The numbers of the checks that are not EMPTY in: each check and its total together have the rest 0."""
    columns = [check for check in ring.checks if check not in empties]
    rows = []
    for check, cover in ring.covers:
        added = {name: times for name, times in cover}
        rows.append([added.get(name, 0) + (1 if name == check else 0) for name in columns])
    return rows


def filling_with(ring, empties, rests, most):
    """The words of the checks, of which just the empties are EMPTY and the others have these rests."""
    others = [check for check in ring.checks if check not in empties]
    found = {check: rest if rest > 0 else most for check, rest in zip(others, rests)}
    return tuple([found.get(check, 0) for check in ring.checks])


def fits_at(ring, width, plain, filling):
    """Whether these values of the checks fit the values of the contents."""
    together = dict(plain)
    for check, value in zip(ring.checks, filling):
        together[check] = value
    return holds_with(ring.fits, width, together)


def unknown_name(ring):
    """A name that the ring does not have."""
    taken = ring.contents + ring.checks
    return [letter for letter in "abcdef" if letter not in taken][0]
