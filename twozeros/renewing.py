"""Rows of renewings: at which widths they make the checks of a ring right, and mend what was changed."""

from twozeros.errors import NoWord, TooLarge
from twozeros.formulas import named
from twozeros.rings import unknown_name
from twozeros.sayings import follows
from twozeros.tables import always
from twozeros.widthsets import Widths

MOST_RENEWINGS = 4


def renewed(ring, *checks):
    """A dict from each check to its formula behind this row of renewings."""
    for check in checks:
        if check not in ring.checks:
            raise NoWord(check)
    if len(checks) > MOST_RENEWINGS:
        raise TooLarge("renewings", MOST_RENEWINGS)
    made = {check: named(check) for check in ring.checks}
    for check in checks:
        made[check] = (~ring.sum_of(check)).replaced(made)
    return made


def right(ring, *checks):
    """The widths at which all wishes are true behind the row, whatever the words were."""
    return always(ring.fits.replaced(renewed(ring, *checks)))


def mends(ring, content, *checks):
    """The widths at which all wishes are true behind the row if the words fit and the content was then changed."""
    if content not in ring.contents:
        raise NoWord(content)
    changed = {content: named(unknown_name(ring))}
    made = {check: formula.replaced(changed) for check, formula in renewed(ring, *checks).items()}
    made[content] = changed[content]
    return always(follows(ring.fits, ring.fits.replaced(made)))


def right_rows(ring):
    """Yield all rows that renew each check once and are right at every width, ascending."""
    rows = [row for row in rows_of(ring, len(ring.checks)) if is_right(ring, row)]
    for row in rows:
        yield row


def least_mend(ring, content):
    """The least of the shortest rows that mend a change of the content at every width, None if there is none."""
    for many in range(len(ring.checks) + 1):
        for row in rows_of(ring, many):
            if mends(ring, content, *row) == Widths.every():
                return row
    return None


def rows_of(ring, many):
    """All rows of so many checks, none of them twice, ascending."""
    checks = sorted(list(ring.checks), key=str)
    rows = [()]
    for _ in range(many):
        rows = [row + (check,) for row in rows for check in checks if check not in row]
    return rows


def is_right(ring, row):
    """Whether a row that renews each check once is right at every width."""
    if ring.layers is None:
        return right(ring, *row) == Widths.every()
    for check, cover in ring.covers:
        behind = row[row.index(check):]
        if any([name in behind for name, _ in cover]):
            return False
    return True
