"""Sayings: what is true or false of the values of formulas."""

from twozeros.errors import BadSaying, TooLarge, ZerosError
from twozeros.formulas import Formula, plain_value
from twozeros.forms import complement_forms, each_once, empty_cases, form_of, one_case
from twozeros.steps import LEVELS, TIGHTEST, arranged, built, complement_written, folded, joined_written, split_tokens
from twozeros.words import checked_values, checked_width, most_value


class Saying:
    """A saying as its steps, pairs of a sign or word and a tuple of formulas; no saying ever changes."""

    MOST_SIZE = 150

    def __init__(self, steps, written, level):
        formulas = [formula for _, parts in steps for formula in parts]
        self.size = len(steps) + sum([formula.size for formula in formulas])
        if self.size > Saying.MOST_SIZE:
            raise TooLarge("size", Saying.MOST_SIZE)
        self.steps = steps
        self.written = written
        self.level = level
        names = {name: True for formula in formulas for name in formula.names}
        self._names = tuple(sorted(names, key=str))

    @classmethod
    def read(cls, text):
        """The saying with this written form."""
        found = found_saying(text)
        if found is None:
            raise BadSaying(text)
        return found

    @property
    def names(self):
        """The names in it, ascending, each once."""
        return self._names

    def holds_at(self, width, words):
        """Whether it is true with these words for its names."""
        values = checked_values(checked_width(width), self.names, words)
        return holds_with(self, width, values)

    def replaced(self, formulas):
        """It with these formulas in the places of these names."""
        return replaced_sayings([(self, formulas)])[0]

    def forms(self):
        """The forms on which its truth depends."""
        return each_once([form for sign, parts in self.steps for form in simple_forms(sign, parts)])

    def truth(self, empties, zeros):
        """Whether it is true if just these names are EMPTY, and just these normal forms have the rest 0."""
        return true_cases(self, one_case(empties, zeros)) == 1

    def __str__(self):
        return str(self.written)

    def __eq__(self, other):
        return isinstance(other, Saying) and self.steps == other.steps

    def __invert__(self):
        return Saying((*self.steps, ("~", ())), complement_written(self), LEVELS["~"])

    def __and__(self, other):
        if not isinstance(other, Saying):
            return NotImplemented
        return joined_sayings(self, "&", other)

    def __xor__(self, other):
        if not isinstance(other, Saying):
            return NotImplemented
        return joined_sayings(self, "^", other)

    def __or__(self, other):
        if not isinstance(other, Saying):
            return NotImplemented
        return joined_sayings(self, "|", other)


def same(e, f):
    """Both formulas have the same word."""
    return simple_saying("same", (e, f))


def like(e, f):
    """Both formulas have the same rest."""
    return simple_saying("like", (e, f))


def is_empty(e):
    """The formula is EMPTY."""
    return simple_saying("isempty", (e,))


def is_full(e):
    """The formula is FULL."""
    return simple_saying("isfull", (e,))


def yes():
    """The saying that is always true."""
    return simple_saying("yes", ())


def no():
    """The saying that never is true."""
    return simple_saying("no", ())


def all_of(*sayings):
    """All these sayings are true."""
    so_far = sayings[0] if sayings else yes()
    for saying in sayings[1:]:
        so_far = so_far & saying
    return so_far


def any_of(*sayings):
    """One of these sayings at least is true."""
    so_far = sayings[0] if sayings else no()
    for saying in sayings[1:]:
        so_far = so_far | saying
    return so_far


def follows(s, t):
    """If s is true, t is."""
    return ~s | t


def simple_saying(word, parts):
    """The simple saying of this word about these formulas."""
    inside = ", ".join([str(part) for part in parts])
    return Saying(((word, parts),), f"{word}({inside})" if parts else word, TIGHTEST)


def joined_sayings(left, sign, right):
    """Two sayings joined by a sign."""
    return Saying((*left.steps, *right.steps, (sign, ())), joined_written(left, sign, right), LEVELS[sign])


def step_saying(sign, parts, operands):
    """The saying that a step makes of its operands."""
    if not operands:
        return simple_saying(sign, parts)
    return ~operands[0] if sign == "~" else joined_sayings(operands[0], sign, operands[1])


def replaced_sayings(pairs):
    """The sayings of pairs of a saying and a dict, each with the formulas of the dict in the places of its names."""
    # Each formula is made before any saying is put together: if one is too large, that is said first.
    rows = [
        [(sign, tuple([part.replaced(formulas) for part in parts])) for sign, parts in saying.steps]
        for saying, formulas in pairs
    ]
    return [folded(steps, step_saying) for steps in rows]


def holds_with(saying, width, values):
    """Whether the saying is true with these integers for its names."""
    def made(sign, parts, operands):
        if sign in LEVELS:
            return joined_truth(sign, operands)
        return simple_truth(sign, [plain_value(part, width, values) for part in parts], most_value(width))

    return folded(saying.steps, made)


def joined_truth(sign, operands):
    """True or False, for a sign between operands that are True or False."""
    if sign == "~":
        return not operands[0]
    if sign == "&":
        return operands[0] and operands[1]
    if sign == "^":
        return operands[0] != operands[1]
    return operands[0] or operands[1]


def simple_truth(word, found, most):
    """Whether a simple saying is true of formulas with these values."""
    if word == "same":
        return found[0] == found[1]
    if word == "like":
        return found[0] % most == found[1] % most
    if word == "isempty":
        return found[0] == 0
    if word == "isfull":
        return found[0] == most
    return word == "yes"


def true_cases(saying, cases):
    """The cases in which the saying is true."""
    def made(sign, parts, operands):
        if sign == "~":
            return cases.everywhere ^ operands[0]
        if sign == "&":
            return operands[0] & operands[1]
        if sign == "^":
            return operands[0] ^ operands[1]
        if sign == "|":
            return operands[0] | operands[1]
        return simple_cases(sign, parts, cases)

    return folded(saying.steps, made)


def simple_cases(word, parts, cases):
    """The cases in which a simple saying is true."""
    if word == "yes":
        return cases.everywhere
    if word == "no":
        return 0
    alike = cases.zero_of(compared_form(parts))
    if word == "like":
        return alike
    empty = empty_cases(parts[0], cases)
    if word == "isempty":
        return empty
    if word == "isfull":
        return alike & (cases.everywhere ^ empty)
    return alike & (cases.everywhere ^ empty ^ empty_cases(parts[1], cases))


def compared_form(parts):
    """The form of the first of one or two formulas, less that of the second one."""
    return form_of(parts[0]) if len(parts) == 1 else form_of(parts[0]) - form_of(parts[1])


def simple_forms(word, parts):
    """The forms that a step of a saying contributes."""
    found = [form for part in parts for form in complement_forms(part)] if word != "like" else []
    if word in ("same", "like", "isfull"):
        found.append(compared_form(parts).normal())
    return found


def found_saying(text):
    """The saying with this written form; None for any other value."""
    if not isinstance(text, str):
        return None
    try:
        found = built(arranged(split_tokens(text)), token_saying)
    except ZerosError:
        return None
    return found if found is not None and str(found) == text else None


def token_saying(token, operands):
    """The saying that a token of a text makes of its operands."""
    if not operands:
        return leaf_saying(token)
    if token not in ("~", "&", "^", "|"):
        raise BadSaying(token)
    return step_saying(token, (), operands)


def leaf_saying(token):
    """The saying of a text without a sign between sayings."""
    if token in ("yes", "no"):
        return simple_saying(token, ())
    word, _, inner = token.partition("(")
    texts = inner[:-1].split(", ")
    if word not in ("same", "like", "isempty", "isfull") or len(texts) != (2 if word in ("same", "like") else 1):
        raise BadSaying(token)
    return simple_saying(word, tuple([Formula.read(part) for part in texts]))
