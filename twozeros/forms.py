"""Forms: the rests of formulas, told for all widths; and when a formula is EMPTY."""

from twozeros.kinds import is_whole
from twozeros.steps import folded
from twozeros.words import checked_values, checked_width, most_value


class Form:
    """A sum of names, each with a number, and a constant, over a power of two; no form ever changes."""

    def __init__(self, numbers, constant=0, scale=0):
        halvings = even_times([constant] + list(numbers.values()), scale)
        self._numbers = {name: numbers[name] >> halvings for name in sorted(numbers, key=str) if numbers[name] != 0}
        self._constant = constant >> halvings
        self._scale = scale - halvings if self._numbers or self._constant != 0 else 0

    @property
    def numbers(self):
        """The numbers of the names."""
        return dict(self._numbers)

    @property
    def constant(self):
        """What is added to the names."""
        return self._constant

    @property
    def scale(self):
        """How often the sum is halved."""
        return self._scale

    @property
    def names(self):
        """The names that have a number, ascending."""
        return tuple(self._numbers)

    def normal(self):
        """A form with the rest 0 at the same words, the same one for all such multiples of it."""
        row = self.row(self.names)
        halvings = even_times(row, None)
        sign = -1 if row[0] < 0 else 1
        numbers = {name: sign * worth >> halvings for name, worth in self._numbers.items()}
        return Form(numbers, sign * self._constant >> halvings)

    def without(self, names):
        """The form without the terms of these names."""
        left = {name: worth for name, worth in self._numbers.items() if name not in names}
        return Form(left, self._constant, self._scale)

    def row(self, names):
        """The numbers of these names, then the constant."""
        return [self._numbers.get(name, 0) for name in names] + [self._constant]

    def rest_at(self, width, words):
        """The rest with these words for its names."""
        values = checked_values(checked_width(width), self.names, words)
        plain_sum = sum([worth * values[name] for name, worth in self._numbers.items()]) + self._constant
        # Doubling comes round after as many times as the width, so halving is doubling by what lacks to a round.
        return (plain_sum << -self._scale % width) % most_value(width)

    def __str__(self):
        return str(written_form(self))

    def __bool__(self):
        return bool(self._numbers) or bool(self._constant)

    def __eq__(self, other):
        return (
            isinstance(other, Form) and self._numbers == other._numbers and self._constant == other._constant
            and self._scale == other._scale
        )

    def __neg__(self):
        return times_form(-1, self)

    def __add__(self, other):
        if not isinstance(other, Form):
            return NotImplemented
        return sum_form(self, other)

    def __sub__(self, other):
        if not isinstance(other, Form):
            return NotImplemented
        return sum_form(self, times_form(-1, other))

    def __mul__(self, other):
        if not is_whole(other):
            return NotImplemented
        return times_form(other, self)

    def __rmul__(self, other):
        if not is_whole(other):
            return NotImplemented
        return times_form(other, self)


class Cases:
    """Which names are EMPTY and which forms have the rest 0, in many cases at once: one bit for each case.

    everywhere has the bits of all cases, empties those of names, zeros those of forms, by their texts.
    """

    def __init__(self, everywhere, empties, zeros):
        self.everywhere = everywhere
        self.empties = empties
        self.zeros = zeros

    def zero_of(self, form):
        """The cases in which this form has the rest 0."""
        normal = form.normal()
        return self.zeros.get(str(normal), 0) if normal else self.everywhere


def one_case(empties, zeros):
    """The one case in which just these names are EMPTY, and just these normal forms have the rest 0."""
    return Cases(1, {name: 1 for name in empties}, {str(form): 1 for form in zeros})


def form_of(formula):
    """The form whose rest the value of the formula has."""
    return folded(formula.steps, step_form)


def complement_forms(formula):
    """The normal forms of the operands of its complements, but for the form 0."""
    found = []

    def made(sign, worth, operands):
        # The second operand of a difference is the operand of a complement, too.
        if sign in ("~", "-"):
            found.append(operands[-1].normal())
        return step_form(sign, worth, operands)

    folded(formula.steps, made)
    return each_once(found)


def is_empty_when(formula, empties, zeros):
    """Whether the formula is EMPTY if just these names are, and just these normal forms have the rest 0."""
    return empty_cases(formula, one_case(empties, zeros)) == 1


def empty_cases(formula, cases):
    """The cases in which the formula is EMPTY."""
    def made(sign, worth, operands):
        forms = [form for form, _ in operands]
        return step_form(sign, worth, forms), empty_step(cases, sign, worth, operands)

    _, empty = folded(formula.steps, made)
    return empty


def empty_step(cases, sign, worth, operands):
    """The cases in which a step makes EMPTY of its operands, pairs of a form and the cases in which it is EMPTY."""
    if sign == "name":
        return cases.empties.get(worth, 0)
    if sign == "number":
        return cases.everywhere if worth == 0 else 0
    if sign == "full":
        return 0
    form, empty = operands[-1]
    full_cases = cases.zero_of(form) & (cases.everywhere ^ empty)
    if sign == "~":
        return full_cases
    if sign == "-":
        return operands[0][1] & full_cases
    return operands[0][1] & empty


def step_form(sign, worth, operands):
    """The form of what a step makes of operands with these forms."""
    if sign == "name":
        return Form({worth: 1})
    if sign in ("number", "full"):
        return Form({}, worth)
    if sign == "+":
        return operands[0] + operands[1]
    if sign == "-":
        return operands[0] - operands[1]
    if sign == "~":
        return -operands[0]
    if sign == "*":
        return worth * operands[0]
    if sign == "<<":
        return (1 << worth) * operands[0]
    form = operands[0]
    return Form(form.numbers, form.constant, form.scale + worth)


def each_once(forms):
    """These forms, each at its first place, but for the form 0."""
    found = {}
    for form in forms:
        if form:
            found.setdefault(str(form), form)
    return [form for form in found.values()]


def even_times(numbers, most):
    """How often all these numbers can be halved, at most so often; 0 if all of them are 0."""
    together = 0
    for worth in numbers:
        together = together | worth
    times = (together & -together).bit_length() - 1 if together != 0 else 0
    return times if most is None or times < most else most


def sum_form(one, other):
    """The sum of two forms."""
    scale = one.scale if one.scale > other.scale else other.scale
    left, right = (1 << scale - one.scale), (1 << scale - other.scale)
    numbers = {name: left * worth for name, worth in one.numbers.items()}
    for name, worth in other.numbers.items():
        numbers[name] = numbers.get(name, 0) + right * worth
    return Form(numbers, left * one.constant + right * other.constant, scale)


def times_form(k, form):
    """The form k times."""
    return Form({name: k * worth for name, worth in form.numbers.items()}, k * form.constant, form.scale)


def written_form(form):
    """The text of a form."""
    terms = [(worth, name) for name, worth in form.numbers.items()]
    if form.constant != 0 or not terms:
        terms.append((form.constant, ""))
    first, *others = terms
    signs = "".join([(" - " if term[0] < 0 else " + ") + written_term(term) for term in others])
    written = ("-" if first[0] < 0 else "") + written_term(first) + signs
    return f"({written}) / {1 << form.scale}" if form.scale > 0 else written


def written_term(term):
    """The text of a number, without its sign, and its name; of a constant the name is empty."""
    worth, name = term
    if name == "":
        return str(abs(worth))
    return name if abs(worth) == 1 else f"{abs(worth)} {name}"
