"""Chains as plain tuples, and what they do to messages, played step by step.

A box is (name, test, rows): a tree of a saying or None, and pairs of a target and a tree of a formula (tests.trees).
"""

import itertools

from tests.trees import formula_of, random_saying_tree, random_tree, saying_of, truth_of, value_of
from tests.values import added, added_times
from twozeros.boxes import Box, Look
from twozeros.chains import Chain


def chain_of(boxes):
    """The Chain of such boxes."""
    return Chain.of([box_of(box) for box in boxes])


def box_of(box):
    name, test, rows = box
    writes = [(target, formula_of(tree)) for target, tree in rows]
    return Box.of(name, writes) if test is None else Look(name, saying_of(test), *writes)


def mend(sort, check, word, new):
    """A mend as a box."""
    if sort == "eager":
        tree = ("+", ("+", check, word), ("~", new))
    else:
        tree = ("~", ("+", ("+", ("~", check), ("~", word)), new))
    return "mend", None, [(check, tree), (word, new)]


def anew(checks, check):
    """A box that sums a check anew; checks are a layout's."""
    tree = None
    for member in dict((row[0], row[1:]) for row in checks)[check]:
        tree = member if tree is None else ("+", tree, member)
    return "anew", None, [(check, ("~", tree))]


def played(boxes, width, words):
    """The words behind the boxes, and whether none of them drops the message."""
    words = dict(words)
    stays = True
    for _, test, rows in boxes:
        stays = stays and (test is None or truth_of(test, width, words))
        for target, tree in rows:
            words[target] = value_of(tree, width, words)
    return words, stays


def taken(kind, checks, check, width, words):
    """Whether the receiver of this kind takes the check."""
    most = 2 ** width - 1
    total = 0
    for member in dict((row[0], row[1:]) for row in checks)[check]:
        total = added(width, total, words[member] if member in words else added_times(width, member, 1))
    own = words[check]
    together = added(width, total, own)
    return {
        "sums": together == most, "rests": together % most == 0, "compares": own == most - total,
        "spares": own == 0 or together == most,
    }[kind]


def all_words(names, width):
    """All ways to give the names words."""
    for values in itertools.product(range(2 ** width), repeat=len(names)):
        yield dict(zip(names, values))


def fates(boxes, names, checks, check, kinds, width):
    """How many words are right and lost, and how many are masked, when all are played."""
    lost = masked = 0
    for words in all_words(names, width):
        right = taken(kinds[0], checks, check, width, words)
        after, stays = played(boxes, width, words)
        arrives = stays and taken(kinds[1], checks, check, width, after)
        lost += right and not arrives
        masked += arrives and not right
    return lost, masked


def random_box(chance, targets, names, size=5):
    """A box of any sort with formulas of this size at most."""
    sort = chance.choice(["eager", "careful", "look", "write", "both"])
    if sort in ("eager", "careful"):
        return mend(sort, "c", chance.choice("ab"), chance.choice(names))
    test = None if sort == "write" else random_saying_tree(chance, 1, 2, names)
    rows = [] if sort == "look" else [
        (chance.choice(targets), random_tree(chance, chance.randint(1, size), names)) for _ in range(chance.randint(1, 2))
    ]
    return chance.choice(["gate", "eye", "hand"]), test, rows
