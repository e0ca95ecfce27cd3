"""Chains of boxes, and at which widths they lose or mask messages."""

from twozeros.boxes import Anew, Box, check_targets, new_names
from twozeros.counts import example
from twozeros.errors import BadBox, NoWord, TooLarge
from twozeros.formulas import named
from twozeros.kinds import is_from
from twozeros.sayings import all_of, replaced_sayings, same, yes
from twozeros.tables import sometimes
from twozeros.weighing import subsets
from twozeros.words import Word

MOST_BOXES = 4


class Chain:
    """A row of boxes, each of which takes what the one before it returns; no chain ever changes."""

    def __init__(self, *boxes):
        for at, box in enumerate(boxes):
            if not isinstance(box, Box):
                raise BadBox(at)
        self.boxes = boxes

    @classmethod
    def of(cls, boxes):
        """The chain of these boxes, a list or tuple."""
        return cls(*boxes)

    def __call__(self, message, news):
        so_far = message.twin()
        for box in self.boxes:
            so_far = box(so_far, news)
        return so_far

    def formulas(self, layout):
        """The formulas behind it of all names of the layout."""
        return formulas_at(self, layout)[-1]

    def news(self, layout):
        """The new names of all boxes, ascending."""
        check_targets(self.boxes, layout)
        return new_names(self.boxes, layout)

    def arrives(self, layout, receiver, check):
        """No box drops the message, and the receiver takes what comes out."""
        taken = receiver.saying(layout, check)
        at_boxes = formulas_at(self, layout)
        always_true = yes()
        asked = [(box.test, made) for box, made in zip(self.boxes, at_boxes) if not box.test == always_true]
        parts = replaced_sayings(asked + [(taken, at_boxes[-1])])
        return all_of(*parts)

    def __add__(self, other):
        if not isinstance(other, Chain):
            return NotImplemented
        boxes = (*self.boxes, *other.boxes)
        return Chain(*boxes)

    def __len__(self):
        return len(self.boxes)

    def __eq__(self, other):
        return isinstance(other, Chain) and self.boxes == other.boxes


def lost(chain, layout, before, behind, check):
    """The widths at which some right message does not arrive."""
    return sometimes(lost_saying(chain, layout, before, behind, check))


def masked(chain, layout, before, behind, check):
    """The widths at which some message that is not right arrives."""
    right = before.saying(layout, check)
    return sometimes(~right & chain.arrives(layout, behind, check))


def lost_at(chain, layout, before, behind, check, width):
    """The words of a right message and the new words with which it does not arrive, None if there are none."""
    return example(lost_saying(chain, layout, before, behind, check), width)


def summed_anew(chain, layout, check, places):
    """The chain that sums the check anew behind the boxes at these places."""
    if check not in layout.check_names:
        raise NoWord(check)
    check_places(places, len(chain.boxes))
    row = []
    for at, box in enumerate(chain.boxes):
        row.append(box)
        if at in places:
            row.append(Anew(box.name, layout, check))
    return Chain(*row)


def fewest_anew(chain, layout, before, behind, check):
    """The fewest places at which to sum anew so that no message is lost, and what is lost with fewer ones."""
    if len(chain.boxes) > MOST_BOXES:
        raise TooLarge("boxes", MOST_BOXES)
    rows = []
    for places in subsets(list(range(len(chain.boxes)))):
        changed = summed_anew(chain, layout, check, places)
        width = lost(changed, layout, before, behind, check).least()
        if width is None:
            return places, rows
        far = width > Word.MOST_WIDTH
        rows.append((places, width, None if far else lost_at(changed, layout, before, behind, check, width)))
    return None, rows


def same_behind(one, other, layout):
    """Both chains make the same words of each name of the layout."""
    left, right = one.formulas(layout), other.formulas(layout)
    parts = [same(left[name], right[name]) for name in layout.names]
    return all_of(*parts)


def formulas_at(chain, layout):
    """For each box the formulas of all names of the layout ahead of it, then those behind all boxes."""
    check_targets(chain.boxes, layout)
    found = [{name: named(name) for name in layout.names}]
    for box in chain.boxes:
        made = dict(found[-1])
        for target, formula in box.writes:
            made[target] = formula.replaced(made)
        found.append(made)
    return found


def lost_saying(chain, layout, before, behind, check):
    """The message is right, but does not arrive."""
    right = before.saying(layout, check)
    return right & ~chain.arrives(layout, behind, check)


def check_places(places, many):
    """Raise an error if places, a tuple of any values, are not indexes of so many boxes, ascending."""
    least = 0
    for at, place in enumerate(places):
        if not is_from(place, least, many - 1):
            raise BadBox(at)
        least = place + 1
