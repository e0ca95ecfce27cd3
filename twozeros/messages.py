"""Messages: a word for each name of a layout."""

from twozeros.errors import BadWord, NoWord
from twozeros.formulas import plain_value
from twozeros.words import Word, checked_value, checked_width, most_value


class Draft:
    """What a message was when a block began, and what was saved before that."""

    def __init__(self, width, plain, older):
        self.width = width
        self.plain = plain
        self.older = older


class Message:
    """The words of a layout's names, kept as integers, and their width."""

    def __init__(self, layout, width, values):
        checked_width(width)
        strange = [name for name in values if name not in layout.names]
        if strange:
            raise NoWord(min(strange, key=str))
        given = {name: checked_value(width, values[name]) for name in layout.names if name in values}
        self.layout = layout
        self.width = width
        self.plain = filled(layout, width, given)
        self.saved = None

    @property
    def bits(self):
        """The width, which can be set, too."""
        return self.width

    @bits.setter
    def bits(self, value):
        self.set_bits(value)

    def set_bits(self, width):
        """Change the width of all words, whose values stay."""
        most = most_value(checked_width(width))
        for name in self.layout.names:
            if self.plain[name] > most:
                raise BadWord(self.plain[name])
        self.width = width

    def all_words(self):
        """A new dict from the names to their words."""
        return {name: Word(self.width, value) for name, value in self.plain.items()}

    def plain_words(self):
        """A new dict from the names to the values of their words."""
        return dict(self.plain)

    def renew(self, check=None):
        """Set a check to its fresh word, or each check in its order."""
        checks = self.layout.check_names if check is None else (check,)
        for name in checks:
            self.plain[name] = plain_value(self.layout.fresh(name), self.width, self.plain)

    def sum_of(self, check):
        """The sum of what a check covers."""
        return self.layout.covered(check).value_at(self.width, self.plain)

    def editing(self):
        """For a block in which an error puts the message back as it was."""
        return self

    def tried(self, ask):
        """What ask returns; if it raises an error, the message is put back as it was."""
        with self.editing():
            return ask()

    def twin(self):
        """A new message with the same words."""
        return Message(self.layout, self.width, self.plain)

    def __enter__(self):
        # The block changes a copy, so that what was saved stays as it is.
        self.saved = Draft(self.width, self.plain, self.saved)
        self.plain = dict(self.plain)

    def __exit__(self, kind, value, trace):
        saved = self.saved
        if kind is not None:
            self.width = saved.width
            self.plain = saved.plain
        self.saved = saved.older

    def __getitem__(self, at):
        return Word(self.width, self.plain[known_name(self.layout, at)])

    def __setitem__(self, at, worth):
        name = known_name(self.layout, at)
        self.plain[name] = checked_value(self.width, worth)

    def __iter__(self):
        raise TypeError("a message is not iterated over")

    def __contains__(self, x):
        return x in self.layout.names

    def __len__(self):
        return len(self.layout.names)

    def __eq__(self, other):
        return (
            isinstance(other, Message) and self.layout == other.layout and self.width == other.width
            and self.plain == other.plain
        )


def edited(message, rows):
    """Set all words that the rows, pairs of a name and a value, tell, or none of them."""
    with message.editing():
        for name, value in rows:
            message[name] = value


def filled(layout, width, given):
    """The values of all names: those that are given, EMPTY for other words, and other checks fresh."""
    plain = {name: given.get(name, 0) for name in layout.words}
    for name in layout.check_names:
        plain[name] = given[name] if name in given else plain_value(layout.fresh(name), width, plain)
    return plain


def known_name(layout, name):
    """The name, any value, if it is one of the layout's."""
    if name not in layout.names:
        raise NoWord(name)
    return name
