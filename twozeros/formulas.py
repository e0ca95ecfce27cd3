"""Formulas: names, numbers and FULL, put together by five operations."""

from twozeros.errors import BadFormula, BadName, TooLarge, ZerosError
from twozeros.kinds import is_from, is_whole
from twozeros.steps import DIGITS, LETTERS, LEVELS, TIGHTEST
from twozeros.steps import arranged, built, complement_written, folded, joined_written, right_written, split_tokens
from twozeros.words import Word, carried_round, checked_width, checked_values, most_value

MOST_LETTERS = 6
MOST_NUMBER = 15
MOST_TIMES_OF = 9
MOST_TURN = 15
NO_NAMES = ("full", "same", "like", "isempty", "isfull", "yes", "no")


class Formula:
    """A formula as its steps, pairs of a sign and a name or number; no formula ever changes."""

    MOST_SIZE = 60

    def __init__(self, steps, written, level):
        if len(steps) > Formula.MOST_SIZE:
            raise TooLarge("size", Formula.MOST_SIZE)
        self.steps = steps
        self.size = len(steps)
        self.written = written
        self.level = level
        names = {worth: True for sign, worth in steps if sign == "name"}
        self._names = tuple(sorted(names, key=str))

    @classmethod
    def read(cls, text):
        """The formula with this written form."""
        found = found_formula(text)
        if found is None:
            raise BadFormula(text)
        return found

    @property
    def names(self):
        """The names in it, ascending, each once."""
        return self._names

    def replaced(self, formulas):
        """It with these formulas in the places of these names."""
        def made(sign, worth, operands):
            if sign == "name":
                return formulas[worth] if worth in formulas else named(worth)
            return step_formula(sign, worth, operands)
        return folded(self.steps, made)

    def value_at(self, width, words):
        """Its value, a Word, with these words for its names."""
        values = checked_values(checked_width(width), self.names, words)
        return Word(width, plain_value(self, width, values))

    def __str__(self):
        return str(self.written)

    def __eq__(self, other):
        return isinstance(other, Formula) and self.steps == other.steps

    def __invert__(self):
        return Formula((*self.steps, ("~", 0)), complement_written(self), LEVELS["~"])

    def __add__(self, other):
        beside = operand_formula(other)
        if beside is None:
            return NotImplemented
        return put_together(self, "+", beside)

    def __radd__(self, other):
        beside = operand_formula(other)
        if beside is None:
            return NotImplemented
        return put_together(beside, "+", self)

    def __sub__(self, other):
        beside = operand_formula(other)
        if beside is None:
            return NotImplemented
        return put_together(self, "-", beside)

    def __rsub__(self, other):
        beside = operand_formula(other)
        if beside is None:
            return NotImplemented
        return put_together(beside, "-", self)

    def __mul__(self, other):
        if not is_whole(other):
            return NotImplemented
        return product_formula(other, self)

    def __rmul__(self, other):
        if not is_whole(other):
            return NotImplemented
        return product_formula(other, self)

    def __lshift__(self, other):
        if not is_whole(other):
            return NotImplemented
        return turned_formula(self, "<<", other)

    def __rshift__(self, other):
        if not is_whole(other):
            return NotImplemented
        return turned_formula(self, ">>", other)


def named(name):
    """The formula that is a name."""
    if not is_name(name):
        raise BadName(name)
    return Formula((("name", name),), name, TIGHTEST)


def number(c):
    """The formula that is a number."""
    if not is_from(c, 0, MOST_NUMBER):
        raise BadFormula(c)
    return Formula((("number", c),), str(c), TIGHTEST)


def full():
    """The formula FULL."""
    return Formula((("full", 0),), "full", TIGHTEST)


def is_name(value):
    """Whether any value is a name."""
    if not isinstance(value, str) or not 1 <= len(value) <= MOST_LETTERS or value in NO_NAMES:
        return False
    return all([letter in LETTERS for letter in value])


def operand_formula(other):
    """The formula that stands beside another one, perhaps as an integer; None if it is neither."""
    if isinstance(other, Formula):
        return other
    return number(other) if is_whole(other) else None


def put_together(left, sign, right):
    """The sum or difference of two formulas."""
    return Formula((*left.steps, *right.steps, (sign, 0)), joined_written(left, sign, right), LEVELS[sign])


def product_formula(k, formula):
    """The formula added k times."""
    if not is_from(k, 1, MOST_TIMES_OF):
        raise BadFormula(k)
    written = right_written(formula, "*")
    return Formula((*formula.steps, ("*", k)), f"{k} * {written}", LEVELS["*"])


def turned_formula(formula, sign, k):
    """The formula turned by k bits."""
    if not is_from(k, 0, MOST_TURN):
        raise BadFormula(k)
    return Formula((*formula.steps, (sign, k)), f"{formula.written} {sign} {k}", LEVELS[sign])


def step_formula(sign, worth, operands):
    """The formula that a step, but for names, makes of its operands."""
    if sign == "number":
        return number(worth)
    if sign == "full":
        return full()
    if sign == "~":
        return ~operands[0]
    if sign == "*":
        return product_formula(worth, operands[0])
    if sign in ("+", "-"):
        return put_together(operands[0], sign, operands[1])
    return turned_formula(operands[0], sign, worth)


def plain_value(formula, width, values):
    """The value of a formula, an integer, with these integers for its names."""
    most = most_value(width)

    def made(sign, worth, operands):
        if sign == "name":
            return values[worth]
        if sign == "full":
            return most
        if sign == "~":
            return most - operands[0]
        return carried_round(width, plain_sum_of(sign, worth, operands))

    def plain_sum_of(sign, worth, operands):
        if sign == "number":
            return worth
        if sign == "+":
            return operands[0] + operands[1]
        if sign == "-":
            return operands[0] + most - operands[1]
        if sign == "*":
            return worth * operands[0]
        # A turn to the right is one to the left by what lacks to a whole round.
        return operands[0] << (worth if sign == "<<" else -worth % width)

    return folded(formula.steps, made)


def found_formula(text):
    """The formula with this written form; None for any other value."""
    if not isinstance(text, str):
        return None
    try:
        found = built(arranged(split_tokens(text)), token_formula)
    except ZerosError:
        return None
    return found if found is not None and str(found) == text else None


def token_formula(token, operands):
    """The formula that a token of a text makes of its operands."""
    if not operands:
        return leaf_formula(token)
    if token == "~":
        return ~operands[0]
    if token == "*":
        return product_formula(told_number(operands[0]), operands[1])
    if token in ("+", "-"):
        return put_together(operands[0], token, operands[1])
    if token in ("<<", ">>"):
        return turned_formula(operands[0], token, told_number(operands[1]))
    raise BadFormula(token)


def leaf_formula(token):
    """The formula of a text without a sign."""
    if token == "full":
        return full()
    # The length is asked first, since no bound is set to the length of a text.
    if len(token) <= len(str(MOST_NUMBER)) and token[0] in DIGITS:
        return number(int(token))
    return named(token)


def told_number(formula):
    """The number that a formula is, where a text has a number and no formula."""
    sign, worth = formula.steps[-1]
    if sign != "number":
        raise BadFormula(formula)
    return worth
