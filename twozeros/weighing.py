"""The weights of a saying, and the systems by which its number is found."""

from math import lcm

from twozeros.errors import TooLarge
from twozeros.forms import Cases
from twozeros.matrices import times_column
from twozeros.sayings import true_cases
from twozeros.stairs import MOST_LENGTH, found_stairs, many_lists, order_of, shared

MOST_NAMES = 6
MOST_FORMS = 8
MOST_IN_FORM = 1000
MOST_SYSTEMS = 500


class Weighed:
    """A saying with its truths and with all its weights that are not 0.

    truths gives for each set of names a list: the truth if just they are EMPTY, for each set of forms, where a set of
    indexes is told by the bits of the place in the list. pairs are (E, U, weight).
    """

    def __init__(self, saying):
        self.known = saying.names
        self.given = saying.forms()
        check_bounds(self.known, self.given)
        self.truths = found_truths(saying, self.given)
        self.pairs = found_pairs(self.truths, len(self.given))
        if len([1 for _, chosen, _ in self.pairs if chosen]) > MOST_SYSTEMS:
            raise TooLarge("systems", MOST_SYSTEMS)

    def free(self, empties):
        """The names that are not EMPTY."""
        return [name for name in self.known if name not in empties]

    def system_rows(self, empties, chosen):
        """The numbers of the chosen forms for the names that are not EMPTY."""
        names = self.free(empties)
        return [self.given[at].row(names)[:-1] for at in chosen]

    def system_constants(self, chosen):
        """The constants of the chosen forms."""
        return [self.given[at].constant for at in chosen]


class Summand:
    """What a pair of E and U contributes to the number: a weight, and how many lists of rests solve the system.

    commons are the divisors of the system, shifted its constants times the left side of its stairs.
    """

    def __init__(self, empties, weight, columns, commons, shifted):
        self.empties = empties
        self.weight = weight
        self.columns = columns
        self.commons = commons
        self.shifted = shifted


def check_bounds(names, forms):
    """Raise an error if there are too many names or forms, or too large numbers in them."""
    if len(names) > MOST_NAMES:
        raise TooLarge("names", MOST_NAMES)
    if len(forms) > MOST_FORMS:
        raise TooLarge("forms", MOST_FORMS)
    for form in forms:
        if any([abs(worth) > MOST_IN_FORM for worth in form.row(names)]):
            raise TooLarge("number", MOST_IN_FORM)


def subsets(members):
    """All tuples of these members in their order, the shorter ones first, those of one length ascending."""
    found = [()]
    longest = [()]
    for _ in members:
        longest = [row + (at,) for row in longest for at in range(row[-1] + 1 if row else 0, len(members))]
        found = found + longest
    return [tuple([members[at] for at in row]) for row in found]


def sign_bits(indexes):
    """The number whose bits tell the indexes."""
    return sum([1 << at for at in indexes])


def place_bits(place, size):
    """The number with one bit for each number below 2 ** size that has the bit of this place."""
    bits = ((1 << (1 << place)) - 1) << (1 << place)
    for higher in range(place + 1, size):
        bits = bits | bits << (1 << higher)
    return bits


def found_truths(saying, forms):
    """A dict from the sets of names to the truths of all sets of forms, one bit for each."""
    names = saying.names
    size = len(names) + len(forms)
    # All cases are found at once. The lower bits of a case tell which forms have the rest 0, the higher ones which
    # names are EMPTY.
    empties = {name: place_bits(len(forms) + at, size) for at, name in enumerate(names)}
    zeros = {str(form): place_bits(at, size) for at, form in enumerate(forms)}
    truths = true_cases(saying, Cases((1 << (1 << size)) - 1, empties, zeros))
    many = 1 << len(forms)
    indexes = subsets(list(range(len(names))))
    parts = {row: truths >> sign_bits(row) * many for row in indexes}
    return {tuple([names[at] for at in row]): [parts[row] >> at & 1 for at in range(many)] for row in indexes}


def found_pairs(truths, many):
    """The (E, U, weight) with weights that are not 0, in the order of the document."""
    chosen = subsets(list(range(many)))
    places = [sign_bits(row) for row in chosen]
    found = []
    for empties, truth in truths.items():
        sums = signed_sums(truth, many)
        found.extend([(empties, row, sums[at]) for row, at in zip(chosen, places) if sums[at] != 0])
    return found


def signed_sums(truth, many):
    """For each set of indexes the sum of the truths of its subsets, negative where an odd number of indexes lacks."""
    sums = list(truth)
    for place in range(many):
        bit = 1 << place
        sums = [worth - sums[at - bit] if at & bit else worth for at, worth in enumerate(sums)]
    return sums


def found_systems(weighed):
    """The pairs of a saying as (E, U, weight, stairs), with None for the stairs if U is empty."""
    made = {}
    found = []
    for empties, chosen, weight in weighed.pairs:
        rows = weighed.system_rows(empties, chosen)
        # Many pairs have the same matrix.
        key = tuple([tuple(row) for row in rows])
        if chosen and key not in made:
            made[key] = found_stairs(rows)
        found.append((empties, chosen, weight, made[key] if chosen else None))
    return found


def summands(weighed):
    """The summands of the number of a saying."""
    found = found_systems(weighed)
    return [summand(weighed, empties, chosen, weight, steps) for empties, chosen, weight, steps in found]


def summand(weighed, empties, chosen, weight, steps):
    """The summand of a pair, with these stairs of its system; without chosen forms there is no system."""
    columns = len(weighed.free(empties))
    if not chosen:
        return Summand(empties, weight, columns, (), ())
    shifted = times_column(steps.left, weighed.system_constants(chosen))
    return Summand(empties, weight, columns, steps.divisors, tuple(shifted))


def length_of(parts):
    """The length of the saying with these summands."""
    length = 1
    for common in each_common(parts):
        length = lcm(length, order_of(odd_part(common)))
        if length > MOST_LENGTH:
            raise TooLarge("length", MOST_LENGTH)
    return length


def each_common(parts):
    """The divisors of all systems of these summands, each once."""
    found = {common: True for part in parts for common in part.commons}
    return list(found)


def odd_part(number):
    """The number, halved until it is odd."""
    return number // (number & -number)


def counted_summands(saying):
    """The summands of the number of a saying; raises all that is raised if it is too large."""
    found = summands(Weighed(saying))
    length_of(found)
    return found


def number_of(parts, most):
    """The sum of what these summands contribute at a width with this M."""
    return sum([part.weight * many_lists(part.commons, part.shifted, part.columns, most) for part in parts])


def merged(parts):
    """These summands, those with the same number of solutions at each width put together."""
    together = {}
    for part in parts:
        key = (part.columns, part.commons, part.shifted)
        together[key] = together.get(key, 0) + part.weight
    return [
        Summand((), weight, columns, commons, shifted)
        for (columns, commons, shifted), weight in together.items() if weight != 0
    ]


def polynomial_of(parts, at):
    """The coefficients of the number at the widths of this class that are not below bound_of."""
    found = [0]
    for part in parts:
        power = part.columns - len(part.commons)
        found = found + [0] * (power + 1 - len(found))
        found[power] = found[power] + part.weight * far_product(part, at)
    while found and found[-1] == 0:
        found.pop()
    return tuple(found)


def far_product(part, at):
    """What a power of M is multiplied with in how many lists solve a system, at the far widths of a class."""
    product = 1
    for index, constant in enumerate(part.shifted):
        # A constant without a divisor has to be divided by M, and at far widths M is too large for all but 0.
        common = shared(part.commons[index], at) if index < len(part.commons) else abs(constant) + 1
        if constant % common != 0:
            return 0
        product = product * common
    return product


def bound_of(parts):
    """A width from which on M divides no constant of these systems that it has to divide, but for 0."""
    bound = 1
    for part in parts:
        for constant in part.shifted[len(part.commons):]:
            for width in range(bound, abs(constant).bit_length() + 1):
                if constant % ((1 << width) - 1) == 0:
                    bound = width + 1
    return bound
