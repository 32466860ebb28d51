"""[A3], [D1] to [D3], [D5]: standings of thick webs that deeds lead to one another."""

import random
import unittest

from botheven.deeds import deed_error, never_below
from botheven.errors import Apart, Thin, Unfit
from botheven.evens import both_error, lot_many
from botheven.joining import is_parting, joined_above, joined_by
from botheven.standings import standing_error
from tests.oracles import ALONE, DOUBLED, FAT, FULL, KITE, ODD_VALUES, ROW, SQUARE, TRIANGLE, TRIPLE
from tests.oracles import all_cuts, all_lots_of, caught, check_call, even_cuts, random_standing, slow_done, some_webs
from tests.oracles import thick_webs

FAR = 10 ** 12


def parting_lots(web, standing, other):
    """Return all both-even lots on which the sums of both standings are unlike modulo 2."""
    return [lot for lot in even_cuts(web) if sum(other[tie] - standing[tie] for tie in lot) % 2]


class Joined(unittest.TestCase):
    def check_joined(self, call, web, standing, other):
        """Check the deeds that lead the one to the other, or the lot that forbids it; tell which it was."""
        parting = parting_lots(web, standing, other)
        check_call(self, call, {"web": web, "standing": standing, "other": other})
        if parting:
            self.assertIn(caught(self, Apart, call, web, standing, other).lot, parting)
            return False
        deeds = call(web, standing, other)
        self.assertIs(type(deeds), tuple)
        for deed in deeds:
            self.assertIsNone(deed_error(web, deed))
        self.assertEqual(slow_done(web, standing, deeds), other)
        return True

    def test_joined_by(self):
        rng = random.Random(19)
        found = []
        for web in thick_webs():
            for far in (1, 5, FAR):
                standing, other = (random_standing(rng, web, -far, far) for _ in range(2))
                found.append(self.check_joined(joined_by, web, standing, other))
        self.assertEqual(set(found), {True, False})

    def test_far_from_nought(self):
        for web in thick_webs():
            many = len(web[1])
            self.assertTrue(self.check_joined(joined_by, web, (-FAR,) * many, (FAR,) * many))
            self.assertTrue(self.check_joined(joined_above, web, (FAR,) * many, (0,) * many))

    def test_standings_that_are_alike(self):
        for web in thick_webs():
            standing = tuple(range(len(web[1])))
            self.assertTrue(self.check_joined(joined_by, web, standing, standing))
            self.assertTrue(self.check_joined(joined_above, web, standing, standing))

    def test_all_standings_of_noughts_and_ones(self):
        for web in (TRIPLE, FAT, FULL):
            many = len(web[1])
            nought, joined = (0,) * many, 0
            for number in range(2 ** many):
                standing = tuple(number >> tie & 1 for tie in range(many))
                joined += self.check_joined(joined_by, web, nought, standing)
            self.assertEqual(joined, 2 ** (many - lot_many(web)))

    def test_joined_above(self):
        rng = random.Random(20)
        found = []
        for web in thick_webs():
            for far in (1, 5, FAR):
                standing, other = (random_standing(rng, web, 0, far) for _ in range(2))
                found.append(self.check_joined(joined_above, web, standing, other))
                if found[-1]:
                    self.assertTrue(never_below(web, standing, joined_above(web, standing, other)))
        self.assertEqual(set(found), {True, False})

    def test_below_nought_comes_ahead_of_apart(self):
        # These are apart by the lot of all four ties, too.
        caught(self, Unfit, joined_above, FAT, (-1, 0, 0, 0), (0, 0, 0, 0))
        caught(self, Unfit, joined_above, FAT, (0, 0, 0, 0), (0, 0, 0, -1))
        caught(self, Unfit, joined_above, FAT, (-1, -1, 0, 0), (0, 0, 0, 0))
        self.assertEqual(caught(self, Apart, joined_above, FAT, (1, 0, 0, 0), (0, 0, 0, 0)).lot, (0, 1, 2, 3))
        caught(self, Unfit, joined_above, web=TRIPLE, standing=(0, 0, -FAR), other=(0, 0, 0))

    def test_web_of_one_place(self):
        for call in (joined_by, joined_above):
            self.assertTrue(self.check_joined(call, ALONE, (), ()))
        self.assertIs(is_parting(ALONE, (), (), ()), False)


class Parting(unittest.TestCase):
    def test_all_lots(self):
        rng = random.Random(21)
        for web in [web for web in thick_webs() if len(web[1]) < 10]:
            for _ in range(3):
                standing, other = (random_standing(rng, web, -9, 9) for _ in range(2))
                parting = parting_lots(web, standing, other)
                for lot in all_lots_of(web):
                    self.assertIs(is_parting(web, standing, other, lot), lot in parting)

    def test_any_value(self):
        standing, other = (1, 0, 0, 0, 0, 0), (0, 0, 0, 0, 0, 0)
        for value in ODD_VALUES + ((0, 2, 3, 5), [0, 2, 3, 5], (5, 3, 2, 0), (False, 2, 3, 5), (0, 2, 3, 5, 5)):
            found = is_parting(FULL, standing, other, value)
            self.assertIs(found, both_error(FULL, value) is None and value != () and 0 in value)
            named = {"web": FULL, "standing": standing, "other": other, "value": value}
            check_call(self, is_parting, named)

    def test_the_lot_of_apart_is_parting(self):
        error = caught(self, Apart, joined_by, FULL, (0, 1, 0, 0, 0, 0), (0, 0, 0, 0, 0, 0))
        self.assertTrue(is_parting(FULL, (0, 1, 0, 0, 0, 0), (0, 0, 0, 0, 0, 0), error.lot))


class NotThick(unittest.TestCase):
    def test_thin_ahead_of_all_else(self):
        for web in [web for web in some_webs() if any(0 < len(cut) < 3 for cut in all_cuts(web))] + [ROW, DOUBLED]:
            short = [cut for cut in all_cuts(web) if 0 < len(cut) < 3]
            nought, below = (0,) * len(web[1]), (-1,) + (0,) * (len(web[1]) - 1)
            for other in (nought, below):
                self.assertIsNone(standing_error(web, other))
                self.assertIn(caught(self, Thin, joined_by, web, nought, other).lot, short)
                self.assertIn(caught(self, Thin, joined_above, web, other, nought).lot, short)
                for value in ((), (0,), None, [], tuple(range(len(web[1])))):
                    self.assertIn(caught(self, Thin, is_parting, web, nought, other, value).lot, short)

    def test_some(self):
        for web in (KITE, SQUARE, TRIANGLE, (2, ((0, 1),)), (2, ((0, 1), (0, 1)))):
            nought = (0,) * len(web[1])
            caught(self, Thin, joined_by, web=web, standing=nought, other=nought)


if __name__ == "__main__":
    unittest.main()
