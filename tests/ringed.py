"""Rings made at random, and what fits them by the plainest reading of the document."""

import itertools

from tests.values import added, added_times
from twozeros.rings import Ring


def random_ring(chance, most_contents=2, most_checks=3):
    """The contents, the covers and the summed checks of a ring with at most five names."""
    contents = tuple("stuv"[:chance.randint(1, most_contents)])
    checks = "cde"[:chance.randint(1, min(most_checks, 5 - len(contents)))]
    names = [*contents, *checks]
    covers = []
    for check in checks:
        cover = chance.sample(names, chance.randint(1, len(names)))
        covers.append((check, tuple((name, chance.choice((1, 1, 2, 3, 8, 9))) for name in cover)))
    summed = tuple(check for check in checks if chance.random() < 0.4)
    return contents, tuple(covers), summed


def ring_of(told):
    contents, covers, summed = told
    return Ring(contents, covers, summed=summed)


def total_of(covers, check, width, words):
    """The total of a check, added step by step."""
    so_far = 0
    for name, times in dict(covers)[check]:
        so_far = added(width, so_far, added_times(width, times, words[name]))
    return so_far


def fits(told, width, words):
    """Whether all wishes are true."""
    _, covers, summed = told
    most = 2 ** width - 1
    for check, _ in covers:
        total = total_of(covers, check, width, words)
        if check in summed and added(width, total, words[check]) != most:
            return False
        if check not in summed and words[check] != most - total:
            return False
    return True


def all_fillings(told, width, words):
    """All tuples of words for the checks that fit, ascending."""
    checks = [check for check, _ in told[1]]
    rows = itertools.product(range(2 ** width), repeat=len(checks))
    return [row for row in rows if fits(told, width, {**words, **dict(zip(checks, row))})]
