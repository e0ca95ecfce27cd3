"""The numbers of sayings at all widths at once."""

from math import comb, gcd

from twozeros.errors import BadWidth, BadWord
from twozeros.kinds import MOST_TIMES, is_from, is_whole
from twozeros.sayings import like, same
from twozeros.stairs import counted_width
from twozeros.tails import divisors_of, least_told
from twozeros.weighing import Weighed, bound_of, length_of, merged, number_of, polynomial_of, summands
from twozeros.widthsets import Widths
from twozeros.words import most_value


class Table:
    """The numbers of a saying: one for each width below a start, and from it on polynomials in M."""

    def __init__(self, numbers_ahead, length, polynomials):
        """numbers_ahead are those below the start; polynomials is a dict from the divisors of the length."""
        self._ahead = numbers_ahead
        self._length = length
        self._polynomials = polynomials

    @property
    def start(self):
        """The width from which on the polynomials tell the numbers."""
        return len(self._ahead) + 1

    @property
    def length(self):
        """With what the greatest common divisor of a width tells its polynomial."""
        return self._length

    def count_at(self, width):
        """The number at a width."""
        return number_at(self, counted_width(width))

    def polynomial(self, width):
        """The coefficients of the polynomial for a width, that of the power 0 first."""
        if not is_whole(width) or width < self.start:
            raise BadWidth(width)
        return list(self._polynomials[gcd(width, self._length)])

    def classes(self):
        """All divisors of the length, ascending, with the coefficients of their polynomials."""
        return [(at, self._polynomials[at]) for at in divisors_of(self._length)]

    def ahead(self):
        """The numbers at the widths below the start."""
        return self._ahead

    def __eq__(self, other):
        return (
            isinstance(other, Table) and self._ahead == other._ahead and self._length == other._length
            and self._polynomials == other._polynomials
        )


def table(saying):
    """The table of the saying."""
    parts = summands(Weighed(saying))
    return found_table(parts, length_of(parts))


def always(saying):
    """The widths at which the saying is true for all choices of words."""
    many = len(saying.names)
    # (M + 1) ** many are all choices.
    return widths_with(table(saying), [tuple([comb(many, power) for power in range(many + 1)])])


def sometimes(saying):
    """The widths at which the saying is true for at least one choice of words."""
    return ~widths_with(table(saying), [()])


def exactly(saying, *numbers):
    """The widths at which the number of the saying is one of the numbers."""
    found = table(saying)
    for number in numbers:
        if not is_from(number, 0, MOST_TIMES):
            raise BadWord(number)
    return widths_with(found, [(number,) if number > 0 else () for number in numbers])


def compared(one, other):
    """The widths at which two formulas always have the same word, at which only always the same rest, the others."""
    alike = always(like(one, other))
    equal = always(same(one, other))
    return equal, alike - equal, ~alike


def found_table(parts, length):
    """The table that these summands give; the length is one that is enough, not yet the least."""
    together = merged(parts)
    least, polynomials = least_told(length, {at: polynomial_of(together, at) for at in divisors_of(length)})
    ahead = [number_of(together, most_value(width)) for width in range(1, bound_of(together))]
    while ahead and ahead[-1] == polynomial_value(polynomials[gcd(len(ahead), least)], most_value(len(ahead))):
        ahead.pop()
    return Table(tuple(ahead), least, polynomials)


def polynomial_value(coefficients, most):
    """The value of a polynomial at M."""
    total = 0
    for coefficient in coefficients[::-1]:
        total = total * most + coefficient
    return total


def number_at(found, width):
    """The number of a table at any width."""
    ahead = found.ahead()
    if width <= len(ahead):
        return ahead[width - 1]
    return polynomial_value(found.polynomial(width), most_value(width))


def widths_with(found, wanted):
    """The widths at which the number of a table is the value of one of these polynomials."""
    kept = [at for at, coefficients in found.classes() if coefficients in wanted]
    start = later(found.start, bound_apart(found, wanted))
    head = []
    for width in range(1, start):
        values = {polynomial_value(coefficients, most_value(width)): True for coefficients in wanted}
        if number_at(found, width) in values:
            head.append(width)
    return Widths.told(head, start, found.length, kept)


def later(one, other):
    """The greater one of two widths."""
    return one if one > other else other


def bound_apart(found, wanted):
    """A width from which on no polynomial of the table has the value of one of these, unless it is the same."""
    rows = [coefficients for _, coefficients in found.classes()] + wanted
    # Where two polynomials are equal, M is a zero of their difference, so it is at most its largest coefficient plus 1.
    return sum([abs(worth) for row in rows for worth in row]).bit_length() + 2
