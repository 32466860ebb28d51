"""[A3], [E1] to [E4]: fellows, bridges, and standings that are made of rounds."""

import random
import unittest

from botheven.deeds import deed_error
from botheven.errors import TooMany, Unfit
from botheven.fellows import bridges, by_rounds, fellow_lots
from botheven.rounds import rounds
from tests.oracles import ALONE, CROWDED, DOUBLED, FAT, KITE, ROW, SQUARE, TAIL, TRIO, WIDE
from tests.oracles import all_cuts, all_rounds_of, bent_webs, caught, check_call, in_lattice, large_webs, lattice
from tests.oracles import random_standing, row, slow_done, some_webs, stars_of

FAR = 10 ** 12


def fellows_of(web):
    """Return the lots of fellows and the bridges, by the rounds that each tie lies on."""
    lots = {}
    for tie in range(len(web[1])):
        lots.setdefault(tuple(lot for lot in all_rounds_of(web) if tie in lot), []).append(tie)
    lone = tuple(lots.pop((), ()))
    return tuple(tuple(ties) for ties in lots.values()), lone


def fellows_by_cuts(web):
    """Return the lots of fellows and the bridges, by all cuts of one tie and of two."""
    cuts = [cut for cut in all_cuts(web) if 0 < len(cut) < 3]
    lone = tuple(sorted(cut[0] for cut in cuts if len(cut) == 1))
    found, met = [], set(lone)
    for tie in range(len(web[1])):
        if tie not in met:
            fellows = {tie}.union(*[cut for cut in cuts if tie in cut])
            found.append(tuple(sorted(fellows)))
            met |= fellows
    return tuple(found), lone


class Fellows(unittest.TestCase):
    def test_held_against_all_rounds(self):
        for web in some_webs() + bent_webs():
            self.assertEqual((fellow_lots(web), bridges(web)), fellows_of(web))
            self.assertEqual((fellow_lots(web), bridges(web)), fellows_by_cuts(web))

    def test_held_against_all_cuts(self):
        for web in large_webs():
            self.assertEqual((fellow_lots(web), bridges(web)), fellows_by_cuts(web))

    def test_bridges_in_a_row(self):
        self.assertEqual((fellow_lots(ROW), bridges(ROW)), ((), tuple(range(11))))
        # Two rounds with a row of three bridges between them.
        web = (10, ((0, 1), (1, 2), (0, 2), (2, 3), (3, 4), (4, 5), (5, 6), (6, 7), (5, 7), (7, 8), (7, 9), (8, 9)))
        self.assertEqual(fellow_lots(web), ((0, 1, 2), (6, 7, 8), (9, 10, 11)))
        self.assertEqual(bridges(web), (3, 4, 5))

    def test_ties_that_lie_twice(self):
        self.assertEqual(fellow_lots(DOUBLED), tuple((k, k + 11) for k in range(11)))
        self.assertEqual(bridges(DOUBLED), ())
        self.assertEqual(fellow_lots((3, ((0, 1), (1, 2), (0, 1)))), ((0, 2),))
        self.assertEqual(bridges((3, ((0, 1), (1, 2), (0, 1)))), (1,))

    def test_some(self):
        self.assertEqual((fellow_lots(ALONE), bridges(ALONE)), ((), ()))
        self.assertEqual((fellow_lots(WIDE)[0], bridges(WIDE)), (tuple(range(11)), ()))
        self.assertEqual(fellow_lots(CROWDED), tuple((tie,) for tie in range(40) if tie not in bridges(CROWDED)))
        caught(self, TooMany, rounds, CROWDED)
        for web in (ALONE, KITE, TAIL, CROWDED):
            check_call(self, fellow_lots, {"web": web})
            check_call(self, bridges, {"web": web})


class ByRounds(unittest.TestCase):
    def good(self, web, one):
        """Tell whether the standing is what [E4] says of those that rounds make."""
        lots, lone = fellows_by_cuts(web)
        if any(one[tie] for tie in lone) or any(len({one[tie] for tie in lot}) > 1 for lot in lots):
            return False
        return all(sum(one[tie] for tie in cut) % 2 == 0 for cut in stars_of(web))

    def check(self, web, one):
        """Check the deeds, or that there are none; tell which it was."""
        check_call(self, by_rounds, {"web": web, "one": one})
        if not self.good(web, one):
            caught(self, Unfit, by_rounds, web, one)
            return False
        deeds = by_rounds(web, one)
        self.assertIs(type(deeds), tuple)
        for deed in deeds:
            self.assertEqual(deed[0], "round")
            self.assertIsNone(deed_error(web, deed))
        self.assertEqual(slow_done(web, (0,) * len(web[1]), deeds), one)
        return True

    def level_standing(self, rng, web, far):
        """Return a standing that is 0 on bridges and alike on fellows."""
        numbers = [0] * len(web[1])
        for lot in fellow_lots(web):
            worth = rng.randint(-far, far)
            for tie in lot:
                numbers[tie] = worth
        return numbers

    def test_small_webs_against_all_rounds(self):
        rng = random.Random(50)
        found = []
        for web in some_webs()[::2] + bent_webs():
            moves = lattice([row(web, lot) for lot in all_rounds_of(web)])
            for far in (1, 3, FAR):
                level = self.level_standing(rng, web, far)
                even = [number // 2 * 2 for number in level]
                off = list(even)
                for tie in rng.sample(range(len(off)), min(1, len(off))):
                    off[tie] += rng.choice((-2, 2)) if abs(off[tie]) < FAR else 0
                for one in (tuple(level), tuple(even), tuple(off), random_standing(rng, web, -far, far)):
                    found.append(self.check(web, one))
                    self.assertEqual(found[-1], in_lattice(moves, one))
        self.assertEqual(set(found), {True, False})

    def test_sums_of_rounds(self):
        rng = random.Random(51)
        for web in some_webs() + bent_webs():
            one = [0] * len(web[1])
            for lot in all_rounds_of(web):
                times = rng.randint(-9, 9)
                one = [number + times * (tie in lot) for tie, number in enumerate(one)]
            self.assertTrue(self.check(web, tuple(one)))

    def test_large_webs(self):
        rng = random.Random(52)
        for web in large_webs():
            for far in (1, 2, FAR):
                level = self.level_standing(rng, web, far)
                self.check(web, tuple(level))
                self.assertTrue(self.check(web, tuple(number // 2 * 2 for number in level)))
            for worth in (0, FAR, -FAR):
                self.assertEqual(self.check(web, (worth,) * len(web[1])), worth == 0 or bridges(web) == ())

    def test_noughts_and_the_web_of_one_place(self):
        for web in (ALONE, ROW, KITE, DOUBLED, TRIO):
            self.assertEqual(slow_done(web, (0,) * len(web[1]), by_rounds(web, (0,) * len(web[1]))), (0,) * len(web[1]))
        self.assertEqual(by_rounds(ALONE, ()), ())

    def test_what_is_wrong_alone(self):
        # A number on a bridge; fellows unlike; an odd cut; each with all else in order.
        caught(self, Unfit, by_rounds, TAIL, (0, 0, 0, 0, 0, 2))
        caught(self, Unfit, by_rounds, SQUARE, (1, 1, 1, 3))
        caught(self, Unfit, by_rounds, FAT, (1, 1, 1, 0))
        caught(self, Unfit, by_rounds, web=KITE, one=(1, 1, 0, 0, 2))
        self.assertTrue(self.check(FAT, (1, 1, 1, -FAR + 1)))


if __name__ == "__main__":
    unittest.main()
