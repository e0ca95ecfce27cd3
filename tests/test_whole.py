"""The whole program: what is lost at a desk, and what fits a ring, found in several ways that have to agree."""

import itertools
import unittest

from tests.played import all_words
from tests.ringed import random_ring, ring_of
from tests.trees import chances
from twozeros.boxes import Anew, Look, LookMend, Mend
from twozeros.chains import Chain, lost, lost_at
from twozeros.counts import count, examples
from twozeros.desk import Desk
from twozeros.errors import Dropped, TooLarge
from twozeros.layouts import Layout
from twozeros.papers import counted, paper, table_of
from twozeros.receivers import Receiver
from twozeros.rings import exact, fillings, unique
from twozeros.sayings import Saying
from twozeros.tables import always, exactly, sometimes, table

LAYOUT = Layout(["r", "m"], [("c", "r", "m")])
LINES = "layout r m : c r m"

# Boxes as lines of a desk, and the same boxes.
CHAINS = (
    (("mend box c m n careful",), Chain(Mend("box", "c", "m", "n"))),
    (("mend box c m n eager",), Chain(Mend("box", "c", "m", "n", sort="eager"))),
    (("mend box c m n careful", "anew sum c"), Chain(Mend("box", "c", "m", "n"), Anew("sum", LAYOUT, "c"))),
    (("look eye ~isempty(n + m)", "mend box c r m eager"),
     Chain(Look("eye", Saying.read("~isempty(n + m)")), Mend("box", "c", "r", "m", sort="eager"))),
    (("look eye ~isempty(c)", "mend box c m n careful", "look eye ~isempty(c)"),
     Chain(LookMend("eye", Saying.read("~isempty(c)"), "c", "m", "n"), Look("eye", Saying.read("~isempty(c)")))),
    ((), Chain()),
)


class LostAtADesk(unittest.TestCase):
    def lost_by_playing(self, lines, before, behind, width):
        """How many ways there are that a right message does not arrive, played line by line."""
        desk = Desk()
        desk.run(LINES, *lines)
        many = 0
        for words in all_words("rmcn", width):
            desk.say("begin {} r={} m={} c={}".format(width, words["r"], words["m"], words["c"]))
            if desk.say(f"takes {before} c") == "no":
                continue
            try:
                desk.say("send n={}".format(words["n"]))
            except Dropped:
                many += 1
                continue
            many += desk.say(f"takes {behind} c") == "no"
        return many

    def test_against_the_saying(self):
        for (lines, chain), (before, behind) in itertools.product(CHAINS, itertools.product(("sums", "compares"), ("sums", "spares"))):
            one, other = Receiver.of(before), Receiver.of(behind)
            saying = one.saying(LAYOUT, "c") & ~chain.arrives(LAYOUT, other, "c")
            beside = 4 - len(saying.names)
            told = table(saying)
            for width in (1, 2):
                many = self.lost_by_playing(lines, before, behind, width)
                choices = 2 ** (width * beside)
                self.assertEqual(count(saying, width) * choices, many)
                self.assertEqual(told.count_at(width) * choices, many)
                self.assertEqual(counted(saying, paper(saying), width) * choices, many)
                self.assertEqual(len(list(examples(saying, width))) * choices, many)
                self.assertEqual(width in sometimes(saying), many > 0)
                self.assertEqual(width in always(saying), many == 2 ** (4 * width))
                self.assertIn(width, exactly(saying, many // choices))
                self.assertEqual(lost_at(chain, LAYOUT, one, other, "c", width) is None, many == 0)
            desk = Desk()
            desk.run(LINES, *lines)
            self.assertEqual(desk.say(f"lost {before} {behind} c"), str(lost(chain, LAYOUT, one, other, "c")))
            self.assertEqual(desk.say(f"lost {before} {behind} c"), desk.say(f"sometimes {saying}"))
            self.assertEqual(desk.say(f"count 2 : {saying}"), str(count(saying, 2)))
            self.assertEqual(table_of(saying, paper(saying)), told)


class RowsThatFitARing(unittest.TestCase):
    def value_of(self, coefficients, most):
        return sum(worth * most ** power for power, worth in enumerate(coefficients))

    def test_against_the_fillings(self):
        chance = chances(71)
        made = 0
        for _ in range(60):
            told = random_ring(chance, 2, 2)
            ring = ring_of(told)
            try:
                whole = table(ring.fits)
            except TooLarge:
                continue
            made += 1
            for width in (1, 2, 3, 4):
                try:
                    found = [fillings(ring, width, words) for words in all_words(ring.contents, width)]
                except TooLarge:
                    continue
                rows = sum(len(one) for one in found)
                beside = 2 ** (width * len([name for name in ring.contents if name not in ring.fits.names]))
                self.assertEqual(count(ring.fits, width) * beside, rows)
                self.assertEqual(whole.count_at(width) * beside, rows)
                if width >= whole.start:
                    self.assertEqual(self.value_of(whole.polynomial(width), 2 ** width - 1) * beside, rows)
                self.assertEqual(counted(ring.fits, paper(ring.fits), width) * beside, rows)
                if len(ring.checks) == 1:
                    self.assertEqual(width in unique(ring), all(len(one) < 2 for one in found))
                    self.assertEqual(width in exact(ring), all(len(one) == 1 for one in found))
        self.assertGreater(made, 40)


if __name__ == "__main__":
    unittest.main()
