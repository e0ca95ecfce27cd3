"""Sums of several words, and of words that come and go."""

from twozeros.errors import BadWord, NotThere
from twozeros.words import Word, carried_round, checked_value, checked_width, found_value


def total(first, *rest):
    """The sum of one or more words."""
    if not isinstance(first, Word):
        raise BadWord(first)
    so_far = first
    for word in rest:
        so_far = so_far + word
    return so_far


class Saved:
    """What a running total was when a trial began, and what was saved before that."""

    def __init__(self, kept, plain_sum, older):
        self.kept = kept
        self.plain_sum = plain_sum
        self.older = older


class Running:
    """Words that come and go, and their sum."""

    def __init__(self, width):
        self.width = checked_width(width)
        self.kept = []
        # The plain sum of the values tells a sum that is EMPTY from one that is FULL, which their rest does not.
        self.plain_sum = 0
        self.saved = None

    @property
    def total(self):
        """The sum of the words that are kept."""
        return Word(self.width, carried_round(self.width, self.plain_sum))

    def add(self, word):
        """Keep a word once more."""
        self._keep(checked_value(self.width, word))

    def drop(self, word):
        """Forget an equal word once."""
        self._forget(self._there(word))

    def exchange(self, old, new):
        """Drop one word and add another one, or change nothing."""
        leaving = self._there(old)
        coming = checked_value(self.width, new)
        self._forget(leaving)
        self._keep(coming)

    def ascending(self):
        """The words that are kept."""
        return [Word(self.width, value) for value in sorted(self.kept, key=int)]

    def trial(self):
        """For a block at whose end all that was done within it is undone."""
        return self

    def tried(self, ask):
        """What ask returns; what it does is undone."""
        with self.trial():
            return ask()

    def __enter__(self):
        # The block changes a copy, so that what was saved stays as it is.
        self.saved = Saved(self.kept, self.plain_sum, self.saved)
        self.kept = list(self.kept)

    def __exit__(self, kind, value, trace):
        saved = self.saved
        self.kept = saved.kept
        self.plain_sum = saved.plain_sum
        self.saved = saved.older

    def __len__(self):
        return len(self.kept)

    def __contains__(self, x):
        value = found_value(self.width, x)
        return value is not None and value in self.kept

    def __iadd__(self, other):
        self.add(other)
        return self

    def __isub__(self, other):
        self.drop(other)
        return self

    def _there(self, word):
        """The value of a word that is kept."""
        value = checked_value(self.width, word)
        if value not in self.kept:
            raise NotThere(word)
        return value

    def _keep(self, value):
        self.kept.append(value)
        self.plain_sum = self.plain_sum + value

    def _forget(self, value):
        self.kept.remove(value)
        self.plain_sum = self.plain_sum - value
