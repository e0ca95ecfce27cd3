"""Sets of widths that depend, behind a start, on the greatest common divisor with a length alone."""

from math import gcd

from twozeros.errors import BadWidth, BadWidths, TooLarge, ZerosError
from twozeros.kinds import is_from, is_whole
from twozeros.stairs import order_of
from twozeros.steps import DIGITS
from twozeros.tails import combined, divisors_of, in_tail, least_in_tail, least_told

MOST_MEMBER = 1000
MOST_START = 1001
MOST_TOLD_LENGTH = 100000
MOST_FIRST = 1000


class Widths:
    """A set of widths by its form; no set ever changes."""

    MOST = 5040

    def __init__(self, head, start, length, kept):
        """The set with these ascending members below the start, and those from it on that are kept."""
        least, told_of = least_told(length, {divisor: divisor in kept for divisor in divisors_of(length)})
        if least > Widths.MOST:
            raise TooLarge("length", Widths.MOST)
        left = {divisor: True for divisor in told_of if told_of[divisor]}
        inside = {width: True for width in head}
        first = start
        while first > 1 and (first - 1 in inside) == in_tail(first - 1, least, left):
            first = first - 1
        self._inside = {width: True for width in head if width < first}
        self._start = first
        self._length = least
        self._kept = left

    @property
    def head(self):
        """The members below the start."""
        return tuple(self._inside)

    @property
    def start(self):
        """From where on the members depend on the length alone."""
        return self._start

    @property
    def length(self):
        """With what the greatest common divisors are taken."""
        return self._length

    @property
    def divisors(self):
        """The greatest common divisors that the members from the start on have."""
        return tuple(sorted(self._kept, key=int))

    @property
    def is_finite(self):
        """Whether there are finitely many members."""
        return not self._kept

    @property
    def density(self):
        """A pair of integers in lowest terms: how many of how many successive widths from the start on are members."""
        many = len(members_round(self))
        common = gcd(many, self._length)
        return many // common, self._length // common

    @staticmethod
    def every():
        """All widths."""
        return Widths([], 1, 1, {1: True})

    @staticmethod
    def none():
        """No width."""
        return Widths([], 1, 1, {})

    @classmethod
    def of(cls, *widths):
        """Just these widths."""
        inside = {checked_from(width, 1, MOST_MEMBER): True for width in widths}
        return cls(sorted(inside, key=int), MOST_START, 1, {})

    @staticmethod
    def from_width(w):
        """All widths from this one on."""
        return Widths([], checked_from(w, 1, MOST_MEMBER), 1, {1: True})

    @staticmethod
    def multiples(k):
        """The widths that k divides."""
        if not is_whole(k) or k < 1:
            raise BadWidth(k)
        if k > Widths.MOST:
            raise TooLarge("length", Widths.MOST)
        return Widths([], 1, k, {k: True})

    @staticmethod
    def dividing(q):
        """The widths w such that q divides 2 ** w - 1."""
        if not is_whole(q) or q < 1 or q % 2 == 0:
            raise BadWidth(q)
        return Widths.multiples(order_of(q))

    @staticmethod
    def told(head, start, length, divisors):
        """The members in head, which are below start, and the widths from it on whose divisor of length is told."""
        checked_from(start, 1, MOST_START)
        checked_from(length, 1, MOST_TOLD_LENGTH)
        inside = {checked_from(width, 1, start - 1): True for width in head}
        for divisor in divisors:
            if not is_from(divisor, 1, length) or length % divisor != 0:
                raise BadWidth(divisor)
        return Widths(sorted(inside, key=int), start, length, {divisor: True for divisor in divisors})

    @classmethod
    def read(cls, text):
        """The set with this text."""
        found = found_widths(text)
        if found is None:
            raise BadWidths(text)
        return found

    def least(self, start=1):
        """The least member that is not below start, None if there is none."""
        if not is_whole(start) or start < 1:
            raise BadWidth(start)
        for width in self._inside:
            if width >= start:
                return width
        return least_in_tail(start if start > self._start else self._start, self._length, self._kept)

    def up_to(self, n):
        """How many members of at most n there are."""
        checked_number(n)
        if n < self._start:
            return len([width for width in self._inside if width <= n])
        rounds, left = divmod(n - self._start + 1, self._length)
        members = members_round(self)
        last = len([width for width in members if width < self._start + left])
        return len(self._inside) + rounds * len(members) + last

    def kth(self, k):
        """The member with exactly k members below it, None if there is none."""
        checked_number(k)
        if k < len(self._inside):
            return self.head[k]
        return member_behind(members_round(self), self._length, k - len(self._inside))

    def first(self, n):
        """The first n members."""
        checked_from(n, 0, MOST_FIRST)
        behind = n - len(self._inside)
        members = members_round(self)
        if behind <= 0 or not members:
            return list(self.head[:n])
        return list(self.head) + [member_behind(members, self._length, k) for k in range(behind)]

    def walk(self):
        """Yield the members, ascending; this may never end."""
        for width in self.head:
            yield width
        members = members_round(self)
        k = 0
        while members:
            yield member_behind(members, self._length, k)
            k = k + 1

    def parted(self, t):
        """The least width that is in just one of both sets, or None."""
        head, start, length, kept = combined(self, "^", t)
        return head[0] if head else least_in_tail(start, length, kept)

    def __contains__(self, x):
        if not is_whole(x):
            return False
        return x in self._inside if x < self._start else in_tail(x, self._length, self._kept)

    def __and__(self, other):
        if not isinstance(other, Widths):
            return NotImplemented
        return joined_widths(self, "&", other)

    def __or__(self, other):
        if not isinstance(other, Widths):
            return NotImplemented
        return joined_widths(self, "|", other)

    def __sub__(self, other):
        if not isinstance(other, Widths):
            return NotImplemented
        return joined_widths(self, "-", other)

    def __xor__(self, other):
        if not isinstance(other, Widths):
            return NotImplemented
        return joined_widths(self, "^", other)

    def __invert__(self):
        return joined_widths(Widths.every(), "-", self)

    def __le__(self, other):
        if not isinstance(other, Widths):
            return NotImplemented
        return is_within(self, other)

    def __lt__(self, other):
        if not isinstance(other, Widths):
            return NotImplemented
        return is_within(self, other) and not is_within(other, self)

    def __ge__(self, other):
        if not isinstance(other, Widths):
            return NotImplemented
        return is_within(other, self)

    def __gt__(self, other):
        if not isinstance(other, Widths):
            return NotImplemented
        return is_within(other, self) and not is_within(self, other)

    def __eq__(self, other):
        return (
            isinstance(other, Widths) and self._start == other._start and self._length == other._length
            and self._inside == other._inside and self._kept == other._kept
        )

    def __bool__(self):
        return bool(self._inside) or bool(self._kept)

    def __str__(self):
        parts = [self.head, (self._start,), (self._length,), self.divisors]
        return " | ".join([" ".join([str(number) for number in part]) if part else "-" for part in parts])


def checked_from(width, least, most):
    """The width, any value, if it is an integer from least to most."""
    if not is_from(width, least, most):
        raise BadWidth(width)
    return width


def checked_number(number):
    """Raise an error if any value is not an integer from 0 on."""
    if not is_whole(number) or number < 0:
        raise BadWidth(number)


def members_round(widths):
    """The members among the first widths from the start on, as many widths as the length."""
    start, length, kept = widths.start, widths.length, {divisor: True for divisor in widths.divisors}
    return [width for width in range(start, start + length) if in_tail(width, length, kept)] if kept else []


def member_behind(members, length, k):
    """The member behind the start with k such members below it; these are the members of the first round."""
    if not members:
        return None
    rounds, at = divmod(k, len(members))
    return members[at] + rounds * length


def joined_widths(one, sign, other):
    """The set that a sign makes of two sets."""
    head, start, length, kept = combined(one, sign, other)
    return Widths(head, start, length, kept)


def is_within(one, other):
    """Whether each member of one set is in the other one."""
    head, _, _, kept = combined(one, "-", other)
    return not head and not kept


def found_widths(text):
    """The set with this text; None for any other value."""
    if not isinstance(text, str):
        return None
    parts = [read_numbers(part) for part in text.split(" | ")]
    if len(parts) != 4 or len(parts[1]) != 1 or len(parts[2]) != 1:
        return None
    try:
        found = Widths.told(parts[0], parts[1][0], parts[2][0], parts[3])
    except ZerosError:
        return None
    return found if str(found) == text else None


def read_numbers(text):
    """The numbers of a part of a text, - for none; what is no number comes out as None, which is no width."""
    return [read_number(word) for word in text.split(" ")] if text != "-" else []


def read_number(word):
    """The number of a word of a text."""
    if word == "" or len(word) > len(str(MOST_TOLD_LENGTH)) or not all([letter in DIGITS for letter in word]):
        return None
    return int(word)
