"""How many inputs make a saying true, and which."""

from twozeros.errors import BadWidth, NoWord, TooLarge
from twozeros.finding import found_example
from twozeros.kinds import is_from
from twozeros.sayings import holds_with
from twozeros.stairs import MOST_LENGTH, counted_width
from twozeros.weighing import Weighed, counted_summands, length_of, number_of, summands
from twozeros.words import checked_width, most_value

MOST_INPUTS = 4096
MOST_BITS = 10000


def weights(saying):
    """Yield (E, U, weight) for each weight that is not 0."""
    weighed = Weighed(saying)
    length_of(summands(weighed))
    for pair in weighed.pairs:
        yield pair


def count(saying, width):
    """How many ways there are to give the names words so that the saying holds."""
    parts = counted_summands(saying)
    return number_of(parts, most_value(counted_width(width)))


def example(saying, width):
    """Words for the names at which the saying holds, None if there are none."""
    weighed = Weighed(saying)
    parts = summands(weighed)
    length_of(parts)
    if not is_from(width, 1, MOST_LENGTH):
        raise BadWidth(width)
    return found_example(weighed, parts, most_value(width))


def examples(saying, width):
    """Yield all words for the names at which the saying holds, ascending."""
    counted_summands(saying)
    names = saying.names
    if checked_width(width) * len(names) > MOST_INPUTS.bit_length() - 1:
        raise TooLarge("inputs", MOST_INPUTS)
    for code in range(1 << width * len(names)):
        words = read_code(code, names, width)
        if holds_with(saying, width, words):
            yield words


def weighted(saying, name, words, width):
    """How many ways there are for so many words and a word for each other name, if the name is the words' total."""
    parts = counted_summands(saying)
    most = most_value(counted_width(width))
    if name not in saying.names:
        raise NoWord(name)
    if width * (words + len(saying.names)) > MOST_BITS:
        raise TooLarge("bits", MOST_BITS)
    empty = number_of([part for part in parts if name in part.empties], most)
    other = number_of([part for part in parts if name not in part.empties], most)
    # Of all rows of words one has the total EMPTY; each other word is the total of equally many of the others.
    return empty + other * (((1 << width * words) - 1) // most)


def read_code(code, names, width):
    """The values of the words that stand behind one another in a number, the first name's as the highest."""
    most = most_value(width)
    far = len(names) - 1
    return {name: (code >> width * (far - at)) & most for at, name in enumerate(names)}
