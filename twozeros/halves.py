"""Halves of words, packed in twos, and the sums of pieces that stand one behind another."""

from twozeros.errors import BadRows, BadWidth, BadWord
from twozeros.kinds import MOST_TIMES, is_from
from twozeros.words import Word, carried_round


def packed(width, halves):
    """The words that the halves make, the first of two as the higher bits."""
    check_halves(checked_even(width), halves)
    filled = halves + [0] if len(halves) % 2 == 1 else halves
    return [Word(width, (filled[at] << width // 2) + filled[at + 1]) for at in range(0, len(filled), 2)]


def half_total(width, halves):
    """The sum of the words that the halves make."""
    plain_sum = sum([word.value for word in packed(width, halves)])
    return Word(width, carried_round(width, plain_sum))


def joined(width, pieces):
    """The half_total of pieces, given by their numbers of halves and their own totals."""
    check_pieces(checked_even(width), pieces)
    together = Word.empty(width)
    ahead = 0
    for number, part in pieces:
        together = together + (part << ahead % 2 * (width // 2))
        ahead = ahead + number
    return together


def checked_even(width):
    """The width, any value, if words of it have halves."""
    if not is_from(width, 2, Word.MOST_WIDTH) or width % 2 == 1:
        raise BadWidth(width)
    return width


def check_halves(width, halves):
    """Raise an error for the first item that is not a half."""
    most = (1 << width // 2) - 1
    for half in halves:
        if not is_from(half, 0, most):
            raise BadWord(half)


def check_pieces(width, pieces):
    """Raise an error for the first item that is not a piece."""
    for at, piece in enumerate(pieces):
        if not is_piece(width, piece):
            raise BadRows(at)


def is_piece(width, piece):
    """Whether any value is a number of halves and a word of this width."""
    if not isinstance(piece, tuple) or len(piece) != 2:
        return False
    number, part = piece
    return is_from(number, 0, MOST_TIMES) and isinstance(part, Word) and part.width == width
