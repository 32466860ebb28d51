"""[A3], [C1] to [C4]: ways without common ties, cuts of few ties, and ties that rounds double."""

import itertools
import random
import unittest

from botheven.deeds import deed_error
from botheven.errors import Thin, Unfit
from botheven.thick import thin_cut, twice
from botheven.ways import fewest_cut, ways
from tests.oracles import ALONE, CROWDED, DOUBLED, FULL, KITE, ROW, TRIPLE, WIDE
from tests.oracles import all_cuts, caught, check_call, is_thick, random_web, slow_done, some_webs, thick_webs

TAIL = (3, ((0, 1), (1, 2), (1, 2), (1, 2)))


def parting_cuts(web, one, other):
    """Return all cuts of places with one among them and other not."""
    return [cut for cut, places in all_cuts(web).items() if (one in places) != (other in places)]


def large_webs():
    rng = random.Random(13)
    found = [ROW, DOUBLED, CROWDED, WIDE, (2, ((0, 1),) * 40)]
    return found + [random_web(rng, 12, count) for count in (12, 15, 18, 21, 24, 30, 40)]


class Ways(unittest.TestCase):
    def check_way(self, web, one, other, way):
        """Check that the ties lead from one to other and that no place is met twice."""
        self.assertIs(type(way), tuple)
        self.assertNotEqual(way, ())
        met = [one]
        for tie in way:
            self.assertIn(met[-1], web[1][tie])
            met.append(sum(web[1][tie]) - met[-1])
        self.assertEqual(met[-1], other)
        self.assertEqual(len(met), len(set(met)))

    def check_ways(self, web, one, other, fewest):
        """Check the ways between two places, and a cut, against the fewest ties of all cuts."""
        found = ways(web, one, other)
        self.assertIs(type(found), tuple)
        self.assertEqual(len(found), min(3, fewest))
        for way in found:
            self.check_way(web, one, other, way)
        ties = [tie for way in found for tie in way]
        self.assertEqual(len(ties), len(set(ties)))
        if fewest > 2:
            caught(self, Unfit, fewest_cut, web, one, other)
        else:
            self.check_cut(web, one, other, fewest_cut(web, one, other), fewest)

    def check_cut(self, web, one, other, lot, fewest):
        self.assertIs(type(lot), tuple)
        self.assertEqual(len(lot), fewest)
        cuts = all_cuts(web)
        self.assertIn(lot, cuts)
        self.assertNotEqual(one in cuts[lot], other in cuts[lot])

    def test_small_webs(self):
        for web in some_webs() + thick_webs()[:20]:
            for one, other in itertools.permutations(range(web[0]), 2):
                fewest = min(len(cut) for cut in parting_cuts(web, one, other))
                self.check_ways(web, one, other, fewest)

    def test_large_webs(self):
        for web in large_webs():
            cuts = all_cuts(web)
            pairs = list(itertools.permutations(range(web[0]), 2))
            for one, other in pairs[::9]:
                fewest = min(len(cut) for cut, places in cuts.items() if (one in places) != (other in places))
                self.check_ways(web, one, other, fewest)

    def test_ways_that_have_to_be_taken_back(self):
        # The fewest ties from 0 to 5 go over the middle, where two ways have to go beside.
        crossed = (6, ((0, 1), (1, 4), (4, 5), (0, 2), (2, 4), (1, 3), (3, 5)))
        self.check_ways(crossed, 0, 5, 2)
        self.assertEqual(len(ways((4, ((0, 1), (1, 2), (2, 3), (0, 2), (1, 3))), 0, 3)), 2)

    def test_calls(self):
        for one, other in itertools.permutations(range(4), 2):
            for call in (ways, fewest_cut):
                check_call(self, call, {"web": KITE, "one": one, "other": other})
                check_call(self, call, {"web": FULL, "one": one, "other": other})


class Thick(unittest.TestCase):
    def test_thin_cut(self):
        for web in some_webs() + thick_webs() + large_webs():
            found = thin_cut(web)
            if is_thick(web):
                self.assertIsNone(found)
            else:
                self.assertIn(found, all_cuts(web))
                self.assertIn(len(found), (1, 2))
            check_call(self, thin_cut, {"web": web})
        self.assertIsNone(thin_cut(ALONE))
        self.assertIsNone(thin_cut(TRIPLE))
        self.assertEqual(thin_cut((2, ((0, 1), (0, 1)))), (0, 1))
        self.assertEqual(thin_cut(TAIL), (0,))

    def check_twice(self, web, tie):
        """Check the deeds that double a tie, or the cut that forbids it."""
        short = [cut for cut in all_cuts(web) if tie in cut and len(cut) < 3]
        if short:
            self.assertIn(caught(self, Thin, twice, web, tie).lot, short)
            return
        deeds = twice(web, tie)
        self.assertIs(type(deeds), tuple)
        self.assertLessEqual(len(deeds), 20)
        for deed in deeds:
            self.assertEqual(deed[0], "round")
            self.assertIsNone(deed_error(web, deed))
        told = tuple(2 if k == tie else 0 for k in range(len(web[1])))
        self.assertEqual(slow_done(web, (0,) * len(web[1]), deeds), told)

    def test_twice(self):
        for web in some_webs() + thick_webs():
            for tie in range(len(web[1])):
                self.check_twice(web, tie)

    def test_twice_in_large_webs(self):
        for web in large_webs():
            for tie in range(0, len(web[1]), 5):
                self.check_twice(web, tie)

    def test_twice_in_a_web_that_is_not_thick(self):
        self.assertEqual(caught(self, Thin, twice, TAIL, 0).lot, (0,))
        for tie in (1, 2, 3):
            self.check_twice(TAIL, tie)

    def test_many_rounds_at_once(self):
        # Both other ways meet at each place in between, so their sum falls into many rounds.
        web = (12, ROW[1] * 2 + ((0, 11),))
        self.check_twice(web, 22)
        self.assertEqual(len(twice(web, 22)), 13)

    def test_calls(self):
        for tie in range(4):
            check_call(self, twice, {"web": TAIL, "tie": tie})


if __name__ == "__main__":
    unittest.main()
