"""The errors of the package, each with what was wrong as its attributes."""


class ZerosError(ValueError):
    """What all errors of this package are."""


class BadWidth(ZerosError):
    """A value is not a width, or not one that can be taken here."""

    def __init__(self, width):
        self.width = width


class BadWord(ZerosError):
    """A value is not a word and does not stand for one, or is not a number that can be taken here."""

    def __init__(self, value):
        self.value = value


class UnlikeWidths(ZerosError):
    """Two words that are put together have the widths one and other."""

    def __init__(self, one, other):
        self.one = one
        self.other = other


class BadName(ZerosError):
    """A value is not a name."""

    def __init__(self, name):
        self.name = name


class BadFormula(ZerosError):
    """A value is not a formula, nor a part or the text of one."""

    def __init__(self, value):
        self.value = value


class BadSaying(ZerosError):
    """A value is not a saying, nor the text of one."""

    def __init__(self, value):
        self.value = value


class TooLarge(ZerosError):
    """There is more of something than the most that is let."""

    def __init__(self, what, most):
        self.what = what
        self.most = most


class NoWord(ZerosError):
    """A name has no word, or nothing is known under it."""

    def __init__(self, name):
        self.name = name


class NotThere(ZerosError):
    """A word that should be forgotten is not kept."""

    def __init__(self, word):
        self.word = word


class BadRows(ZerosError):
    """The row at this index is wrong."""

    def __init__(self, at):
        self.at = at


class BadWidths(ZerosError):
    """A value is not the text of a set of widths."""

    def __init__(self, text):
        self.text = text


class BadPaper(ZerosError):
    """A value is no paper for the saying."""


class BadLayout(ZerosError):
    """A part of a layout is wrong at this index."""

    def __init__(self, part, at):
        self.part = part
        self.at = at


class BadBox(ZerosError):
    """The box, or the part of a box, at this index is wrong."""

    def __init__(self, at):
        self.at = at


class Dropped(ZerosError):
    """The box with this name drops the message."""

    def __init__(self, name):
        self.name = name


class BadRing(ZerosError):
    """A part of a ring is wrong at this index."""

    def __init__(self, part, at):
        self.part = part
        self.at = at


class BadLine(ZerosError):
    """A value is not a line that can be done now."""
