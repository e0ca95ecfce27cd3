"""Papers, from which the numbers of a saying are read without a search."""

from twozeros.errors import BadPaper
from twozeros.kinds import is_from
from twozeros.stairs import are_stairs, counted_width
from twozeros.tables import found_table
from twozeros.weighing import Weighed, found_systems, length_of, number_of, summand, summands
from twozeros.words import most_value


def paper(saying):
    """A paper for the saying."""
    weighed = Weighed(saying)
    length_of(summands(weighed))
    return [(empties, chosen, steps) for empties, chosen, _, steps in found_systems(weighed) if chosen]


def is_paper(saying, thing):
    """Whether any value is a paper for the saying."""
    return fits(Weighed(saying), thing)


def counted(saying, thing, width):
    """The number of the saying at this width, found from the paper alone."""
    weighed = Weighed(saying)
    most = most_value(counted_width(width))
    return number_of(read_summands(weighed, thing), most)


def table_of(saying, thing):
    """The table of the saying, found from the paper alone."""
    parts = read_summands(Weighed(saying), thing)
    return found_table(parts, length_of(parts))


def read_summands(weighed, thing):
    """The summands that a paper, any value, tells."""
    if not fits(weighed, thing):
        raise BadPaper()
    found = {(empties, chosen): steps for empties, chosen, steps in thing}
    return [
        summand(weighed, empties, chosen, weight, found.get((empties, chosen)))
        for empties, chosen, weight in weighed.pairs
    ]


def fits(weighed, thing):
    """Whether any value is a paper for a saying."""
    if not isinstance(thing, (list, tuple)):
        return False
    seen = {}
    for entry in thing:
        if not is_entry(weighed, entry) or (entry[0], entry[1]) in seen:
            return False
        seen[(entry[0], entry[1])] = True
    return all([(empties, chosen) in seen for empties, chosen, _ in weighed.pairs if chosen])


def is_entry(weighed, entry):
    """Whether any value tells stairs of a system of the saying."""
    if not isinstance(entry, tuple) or len(entry) != 3:
        return False
    empties, chosen, steps = entry
    if not is_choice(empties, weighed.known) or not are_indexes(chosen, len(weighed.given)):
        return False
    return are_stairs(weighed.system_rows(empties, chosen), steps)


def is_choice(empties, names):
    """Whether any value is a tuple of some of these ascending names, each once, ascending."""
    return isinstance(empties, tuple) and empties == tuple([name for name in names if name in empties])


def are_indexes(chosen, many):
    """Whether any value is a tuple of one or more ascending indexes below this number."""
    if not isinstance(chosen, tuple) or not chosen:
        return False
    inside = all([is_from(at, 0, many - 1) for at in chosen])
    return inside and all([one < other for one, other in zip(chosen, chosen[1:])])
