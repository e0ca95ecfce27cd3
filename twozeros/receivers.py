"""Receivers: what takes a message by one of its checks, or refuses it."""

from twozeros.errors import BadName
from twozeros.formulas import full, named
from twozeros.sayings import is_empty, is_full, like, same


class Receiver:
    """Takes a message if a saying about a check and what it covers holds; its word tells which saying."""

    WORDS = ("sums", "rests", "compares", "spares")

    def __init__(self, word):
        self.word = word

    @staticmethod
    def of(word):
        """The receiver with this word."""
        if word == "sums":
            return Summing()
        if word == "rests":
            return Resting()
        if word == "compares":
            return Comparing()
        if word == "spares":
            return Sparing()
        raise BadName(word)

    def __call__(self, message, check):
        return takes(self, message, check)

    def saying(self, layout, check):
        """What holds of the messages that it takes."""
        return taking(self.word, layout, check)

    def takes_all(self, message):
        """Whether it takes each check of the message."""
        return takes_each(self, message)

    def __eq__(self, other):
        return isinstance(other, Receiver) and self.word == other.word


# What all receivers do stands in each class again, because what the interface lists is not to be inherited.


class Summing(Receiver):
    """Takes a check that makes the sum FULL."""

    def __init__(self):
        super().__init__("sums")

    def __call__(self, message, check):
        return takes(self, message, check)

    def saying(self, layout, check):
        """What holds of the messages that it takes."""
        return taking(self.word, layout, check)

    def takes_all(self, message):
        """Whether it takes each check of the message."""
        return takes_each(self, message)

    def __eq__(self, other):
        return isinstance(other, Summing) and self.word == other.word


class Resting(Receiver):
    """Takes a check that makes the rest of the sum 0."""

    def __init__(self):
        super().__init__("rests")

    def __call__(self, message, check):
        return takes(self, message, check)

    def saying(self, layout, check):
        """What holds of the messages that it takes."""
        return taking(self.word, layout, check)

    def takes_all(self, message):
        """Whether it takes each check of the message."""
        return takes_each(self, message)

    def __eq__(self, other):
        return isinstance(other, Resting) and self.word == other.word


class Comparing(Receiver):
    """Takes a check that is the fresh word."""

    def __init__(self):
        super().__init__("compares")

    def __call__(self, message, check):
        return takes(self, message, check)

    def saying(self, layout, check):
        """What holds of the messages that it takes."""
        return taking(self.word, layout, check)

    def takes_all(self, message):
        """Whether it takes each check of the message."""
        return takes_each(self, message)

    def __eq__(self, other):
        return isinstance(other, Comparing) and self.word == other.word


class Sparing(Summing):
    """Takes an EMPTY check, and what Summing takes."""

    def __init__(self):
        super().__init__()
        self.word = "spares"

    def __call__(self, message, check):
        return takes(self, message, check)

    def saying(self, layout, check):
        """What holds of the messages that it takes."""
        return taking(self.word, layout, check)

    def takes_all(self, message):
        """Whether it takes each check of the message."""
        return takes_each(self, message)

    def __eq__(self, other):
        return isinstance(other, Sparing) and self.word == other.word


def taking(word, layout, check):
    """The saying of the receiver with this word about a check, any value."""
    covered = layout.covered(check)
    own = named(check)
    if word == "rests":
        return like(covered + own, full())
    if word == "compares":
        return same(own, ~covered)
    if word == "spares":
        return is_empty(own) | is_full(covered + own)
    return is_full(covered + own)


def takes(receiver, message, check):
    """Whether the receiver's saying about a check holds of the message."""
    return receiver.saying(message.layout, check).holds_at(message.width, message.plain_words())


def takes_each(receiver, message):
    """Whether the receiver takes each check of the message."""
    return all([takes(receiver, message, check) for check in message.layout.check_names])
