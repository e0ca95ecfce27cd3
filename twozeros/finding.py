"""How words are found at which a saying holds."""

from twozeros.matrices import times_column, times_matrix
from twozeros.stairs import found_stairs, inner_many, inner_solution, many_lists, outer_rests
from twozeros.weighing import number_of, sign_bits, subsets

TRIED = 24


class Search:
    """The search for rests at which some rows are 0, with their constants, and the others are not.

    It is done in other numbers y, where rests = right * y: the rows that are 0 tell each y for itself there, up to
    multiples of a step. base is one list y at which they are 0, or None; many tells how many steps go round.
    """

    def __init__(self, zero_rows, zero_constants, rows, constants, columns, most):
        # A row of zeros changes nothing, but without any row there would be no stairs.
        made = found_stairs(zero_rows + [[0] * columns])
        shifted = times_column(made.left, zero_constants + [0])
        self.most = most
        self.right = made.right
        self.base = inner_solution(made.divisors, shifted, columns, most)
        self.many = [inner_many(made.divisors, at, most) for at in range(columns)]
        self.own = [(made.divisors[at], shifted[at]) for at in range(len(made.divisors))]
        self.others = times_matrix(rows, made.right, columns)
        self.fixed = constants

    def found(self):
        """Such rests, None if there are none."""
        if self.base is None or self.some_always_zero():
            return None
        for turn in range(TRIED):
            tried = self.moved(turn)
            if self.none_zero(tried):
                return outer_rests(self.right, tried, self.most)
        return self.found_surely()

    def some_always_zero(self):
        """Whether one of the others is 0 wherever the rows are."""
        steps = [self.most // many for many in self.many]
        for row, constant in zip(self.others, at_values(self.others, self.fixed, self.base)):
            if constant % self.most == 0 and all([a * b % self.most == 0 for a, b in zip(row, steps)]):
                return True
        return False

    def moved(self, turn):
        """The base, each value moved by another number of its steps."""
        found = []
        turns = turn
        for at in range(len(self.base)):
            found.append(self.turned(at, turns))
            turns = turns * turn
        return found

    def none_zero(self, values):
        """Whether none of the others is 0 at these values."""
        return all([total % self.most != 0 for total in at_values(self.others, self.fixed, values)])

    def found_surely(self):
        """Such rests, None if there are none: each value is chosen so that there are some left for the next ones."""
        sieve = self.sieve(0)
        if self.many_left(sieve, []) == 0:
            return None
        chosen = []
        for at in range(len(self.base)):
            sieve = self.sieve(at + 1)
            turn = 0
            # Let z be a root of unity of the order M. For any next values the product of 1 - z ** total, over the
            # totals of the others, is 0 exactly if one of them is. It is a sum of turn-th powers, one for each set of
            # others; such a sum that is 0 for as many turns in a row is 0 for all turns. So this ends soon.
            while self.many_left(sieve, chosen + [self.turned(at, turn)]) == 0:
                turn = turn + 1
            chosen.append(self.turned(at, turn))
        return outer_rests(self.right, chosen, self.most)

    def turned(self, at, turn):
        """The value of the base at this index, moved by so many of its steps."""
        return (self.base[at] + turn * (self.most // self.many[at])) % self.most

    def sieve(self, start):
        """For each set of others the stairs of the rows that are 0 with them, from this index of the values on."""
        columns = len(self.many) - start
        own = [[0] * columns]
        for at in range(start, len(self.own)):
            own.append([self.own[at][0] if at == start + to else 0 for to in range(columns)])
        chosen = subsets(list(range(len(self.others))))
        return [(row, found_stairs(own + [self.others[index][start:] for index in row])) for row in chosen]

    def many_left(self, sieve, values):
        """How many lists of values begin with these and make the rows 0, but none of the others."""
        columns = len(self.many) - len(values)
        own = [0] + [constant for _, constant in self.own[len(values):]]
        constants = at_values(self.others, self.fixed, values)
        total = 0
        for chosen, steps in sieve:
            shifted = times_column(steps.left, own + [constants[at] for at in chosen])
            lists = many_lists(steps.divisors, shifted, columns, self.most)
            # Lists at which several others are 0 are taken off and added again, so that each counts as it should.
            total = total + (lists if len(chosen) % 2 == 0 else -lists)
        return total


def at_values(rows, constants, values):
    """The sums of the rows' numbers times the values, as far as there are values, and the constants."""
    return [sum([a * b for a, b in zip(row, values)]) + constant for row, constant in zip(rows, constants)]


def found_example(weighed, parts, most):
    """Words for the names at which the saying holds, None if there are none."""
    every = subsets(list(range(len(weighed.given))))
    for empties, truth in weighed.truths.items():
        if number_of([part for part in parts if part.empties == empties], most) > 0:
            for chosen in [row for row in every if truth[sign_bits(row)] == 1]:
                rests = rests_with(weighed, empties, chosen, most)
                if rests is not None:
                    return words_with(weighed, empties, rests, most)
    return None


def rests_with(weighed, empties, chosen, most):
    """Rests of the names that are not EMPTY at which just the chosen forms are 0, None if there are none."""
    others = [at for at in range(len(weighed.given)) if at not in chosen]
    search = Search(
        weighed.system_rows(empties, chosen), weighed.system_constants(chosen), weighed.system_rows(empties, others),
        weighed.system_constants(others), len(weighed.free(empties)), most,
    )
    return search.found()


def words_with(weighed, empties, rests, most):
    """The words with these rests, EMPTY for these names alone."""
    words = {name: 0 for name in empties}
    for name, rest in zip(weighed.free(empties), rests):
        words[name] = rest if rest > 0 else most
    return words
