"""Words of a width from 1 to 64, whose sums carry round."""

from twozeros.errors import BadWidth, BadWord, NoWord, UnlikeWidths
from twozeros.kinds import MOST_TIMES, is_from


class Word:
    """A width and a value; no word ever changes."""

    MOST_WIDTH = 64

    def __init__(self, width, value):
        most = most_value(checked_width(width))
        if not is_from(value, 0, most):
            raise BadWord(value)
        self.width = width
        self.value = value
        self.rest = value % most
        self.is_empty = value == 0
        self.is_full = value == most

    @staticmethod
    def empty(width):
        """The word without a bit."""
        return Word(width, 0)

    @staticmethod
    def full(width):
        """The word of all bits."""
        return Word(width, most_value(checked_width(width)))

    @classmethod
    def read(cls, text):
        """The word with these bits, the highest one first."""
        if not is_bits(text):
            raise BadWord(text)
        return cls(len(text), int(text, 2))

    def like(self, other):
        """Whether the rests are equal."""
        return self.rest == operand_value(self, other) % most_value(self.width)

    def __str__(self):
        return "".join(["1" if self.value >> place & 1 else "0" for place in reversed(range(self.width))])

    def __repr__(self):
        return f"Word({self.width}, {self.value})"

    def __bool__(self):
        return not self.is_empty

    def __abs__(self):
        back = most_value(self.width) - self.rest
        return self.rest if self.rest < back else back

    def __invert__(self):
        return Word(self.width, most_value(self.width) - self.value)

    def __add__(self, other):
        return sum_word(self.width, self.value, operand_value(self, other))

    def __radd__(self, other):
        return sum_word(self.width, operand_value(self, other), self.value)

    def __sub__(self, other):
        return difference_word(self.width, self.value, operand_value(self, other))

    def __rsub__(self, other):
        return difference_word(self.width, operand_value(self, other), self.value)

    def __xor__(self, other):
        return Word(self.width, self.value ^ operand_value(self, other))

    def __rxor__(self, other):
        return Word(self.width, operand_value(self, other) ^ self.value)

    def __mul__(self, other):
        return Word(self.width, carried_round(self.width, checked_times(other) * self.value))

    def __rmul__(self, other):
        return Word(self.width, carried_round(self.width, checked_times(other) * self.value))

    def __lshift__(self, other):
        return turned(self, checked_times(other))

    def __rshift__(self, other):
        return turned(self, -checked_times(other))

    def __eq__(self, other):
        return isinstance(other, Word) and self.width == other.width and self.value == other.value

    def __lt__(self, other):
        return self.value < ordered_value(self, other)

    def __le__(self, other):
        return self.value <= ordered_value(self, other)

    def __gt__(self, other):
        return self.value > ordered_value(self, other)

    def __ge__(self, other):
        return self.value >= ordered_value(self, other)


def checked_width(width):
    """The width, any value, if a word can have it."""
    if not is_from(width, 1, Word.MOST_WIDTH):
        raise BadWidth(width)
    return width


def most_value(width):
    """The value of FULL, which is also what rests are remainders of."""
    return (1 << width) - 1


def carried_round(width, number):
    """The value of a sum of words whose values have this plain sum."""
    # Only words without a bit have the plain sum 0; any other multiple of M is FULL, not EMPTY.
    return (number - 1) % most_value(width) + 1 if number > 0 else 0


def sum_word(width, one, other):
    """The sum of two words, given by their values."""
    return Word(width, carried_round(width, one + other))


def difference_word(width, one, other):
    """The difference of two words, given by their values."""
    return sum_word(width, one, most_value(width) - other)


def turned(word, places):
    """The word turned so many places towards the highest bit, or back if the number is below 0."""
    # Taking the remainder first keeps far turns as quick as near ones.
    return Word(word.width, carried_round(word.width, word.value << places % word.width))


def is_bits(text):
    """Whether any value is a string of the bits of a word."""
    if not isinstance(text, str) or not 1 <= len(text) <= Word.MOST_WIDTH:
        return False
    return all([bit in "01" for bit in text])


def checked_times(times):
    """The number, any value, if a word can be multiplied or turned by it."""
    if not is_from(times, 0, MOST_TIMES):
        raise BadWord(times)
    return times


def operand_value(word, other):
    """The value of what stands beside a word: a word of its width, or an integer that stands for one."""
    if not isinstance(other, Word):
        return checked_value(word.width, other)
    if other.width != word.width:
        raise UnlikeWidths(word.width, other.width)
    return other.value


def ordered_value(word, other):
    """The value of a word that is compared with another one."""
    if not isinstance(other, Word):
        raise BadWord(other)
    return operand_value(word, other)


def found_value(width, word):
    """The value of a Word of this width or of an integer that stands for one; None for anything else."""
    if isinstance(word, Word):
        return word.value if word.width == width else None
    return word if is_from(word, 0, most_value(width)) else None


def checked_value(width, word):
    """The value of a Word of this width or of an integer that stands for one."""
    value = found_value(width, word)
    if value is None:
        raise BadWord(word)
    return value


def checked_values(width, names, words):
    """A dict from these names, which are ascending, to the values of their words."""
    for name in names:
        if name not in words:
            raise NoWord(name)
    return {name: checked_value(width, words[name]) for name in names}
