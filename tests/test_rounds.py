"""[A3], [A9], [A10]: rounds, even lots parted, and the rounds of the first tree."""

import itertools
import random
import unittest

from botheven.errors import TooMany, Unfit
from botheven.lots import is_even, sum_of
from botheven.rounds import is_round, parted_even, rounds, tree_rounds
from botheven.webs import web_error
from tests.oracles import ALONE, BOW, CROWDED, DOUBLED, KITE, ROW, TRIPLE
from tests.oracles import added, all_lots_of, all_rounds_of, caught, check_call, even, even_lots, random_web, some_webs

LONG = (12, ROW[1] + ((0, 11),))


def first_tree_of(web):
    """Return the ties of the first tree: each that makes no even lot with ties that were taken."""
    taken = ()
    for tie in range(len(web[1])):
        parts = [part for many in range(len(taken) + 1) for part in itertools.combinations(taken, many)]
        if not any(even(web, part + (tie,)) for part in parts):
            taken += (tie,)
    return taken


class Rounds(unittest.TestCase):
    def test_held_against_the_definition(self):
        for web in some_webs():
            told = all_rounds_of(web)
            self.assertEqual(rounds(web), tuple(told))
            for lot in all_lots_of(web):
                self.assertIs(is_round(web, lot), lot in told)

    def test_rounds_of_two_ties_and_long_ones(self):
        self.assertEqual(rounds((2, ((0, 1),) * 2)), ((0, 1),))
        self.assertEqual(rounds(LONG), (tuple(range(12)),))
        self.assertTrue(is_round(LONG, tuple(range(12))))
        self.assertFalse(is_round(LONG, tuple(range(11))))
        self.assertTrue(is_round(DOUBLED, (3, 14)))
        self.assertFalse(is_round(DOUBLED, (3, 4, 14, 15)))
        self.assertFalse(is_round(DOUBLED, (0, 11, 5, 16)))

    def test_rounds_that_meet_in_a_place(self):
        self.assertTrue(is_even(BOW, (0, 1, 2, 3, 4, 5)))
        self.assertFalse(is_round(BOW, (0, 1, 2, 3, 4, 5)))
        self.assertEqual(rounds(BOW), ((3, 4, 5), (0, 1, 2)))

    def test_webs_without_rounds(self):
        for web in (ALONE, ROW, (2, ((0, 1),))):
            self.assertEqual(rounds(web), ())
            self.assertFalse(is_round(web, ()))

    def test_large_webs(self):
        self.assertEqual(rounds(DOUBLED), tuple((k, k + 11) for k in range(10, -1, -1)))
        self.assertEqual(len(rounds((12, LONG[1] + tuple((0, k) for k in range(2, 11))))), 55)
        rng = random.Random(5)
        for _ in range(20):
            web = random_web(rng, 12, 16)
            found = rounds(web)
            rows = [tuple(1 if tie in lot else 0 for tie in range(16)) for lot in found]
            self.assertEqual(rows, sorted(set(rows)))
            self.assertTrue(all(is_round(web, lot) for lot in found))
            sums = {added(*some) for many in range(6) for some in itertools.combinations(tree_rounds(web), many)}
            self.assertEqual(set(found), {lot for lot in sums if is_round(web, lot)})

    def test_too_many_at_just_more_than_500(self):
        # Rounds of bundles of parallel ties that hang together in a row: many * (many - 1) / 2 of each.
        self.assertEqual(len(rounds((2, ((0, 1),) * 32))), 496)
        just = (4, ((0, 1),) * 32 + ((1, 2),) * 3 + ((2, 3),) * 2)
        self.assertEqual(len(rounds(just)), 500)
        self.assertEqual(rounds(just)[:2], ((35, 36), (33, 34)))
        more = (5, just[1] + ((3, 4), (3, 4)))
        for web in (more, (5, more[1][::-1]), (2, ((0, 1),) * 33), (2, ((0, 1),) * 40), CROWDED):
            self.assertIsNone(web_error(web))
            self.assertEqual(caught(self, TooMany, rounds, web).limit, 500)
        one_more = (3, ((0, 1),) * 32 + ((1, 2),) * 3 + ((0, 2),))
        self.assertEqual(caught(self, TooMany, rounds, web=one_more).limit, 500)

    def test_dense_part_behind_a_bridge(self):
        full = tuple(itertools.combinations(range(1, 10), 2))
        for ties in (((0, 1),) + full, full + ((0, 1),)):
            self.assertEqual(caught(self, TooMany, rounds, (10, ties)).limit, 500)

    def test_calls(self):
        for web in (ALONE, KITE, TRIPLE, CROWDED):
            check_call(self, rounds, {"web": web})
            check_call(self, tree_rounds, {"web": web})
        for lot in ((), (0, 1), (0, 1, 2, 3), (0, 1, 4)):
            check_call(self, is_round, {"web": KITE, "lot": lot})
            check_call(self, parted_even, {"web": KITE, "lot": lot})


class Parted(unittest.TestCase):
    def check_parts(self, web, lot):
        """Check that the parts are rounds without common ties, and make up the lot."""
        parts = parted_even(web, lot)
        self.assertIs(type(parts), tuple)
        self.assertTrue(all(is_round(web, part) for part in parts))
        self.assertEqual(sorted(itertools.chain(*parts)), list(lot))

    def test_small_webs(self):
        for web in some_webs():
            for lot in all_lots_of(web):
                if even(web, lot):
                    self.check_parts(web, lot)
                else:
                    caught(self, Unfit, parted_even, web, lot)
            self.assertEqual(parted_even(web, ()), ())

    def test_large_webs(self):
        rng = random.Random(6)
        for web in (CROWDED, DOUBLED) + tuple(random_web(rng, 12, 40) for _ in range(5)):
            base = tree_rounds(web)
            for _ in range(20):
                self.check_parts(web, added(*[lot for lot in base if rng.random() < 0.5]))


class TreeRounds(unittest.TestCase):
    def test_one_for_each_tie_that_is_not_taken(self):
        for web in some_webs() + [DOUBLED]:
            tree = first_tree_of(web) if web != DOUBLED else tuple(range(11))
            others = [tie for tie in range(len(web[1])) if tie not in tree]
            found = tree_rounds(web)
            self.assertEqual(len(found), len(others))
            for tie, lot in zip(others, found):
                self.assertTrue(is_round(web, lot))
                self.assertEqual([one for one in lot if one not in tree], [tie])

    def test_each_even_lot_is_one_sum_of_them(self):
        for web in some_webs():
            base = tree_rounds(web)
            sums = [sum_of(some) for many in range(len(base) + 1) for some in itertools.combinations(base, many)]
            self.assertEqual(sorted(sums), sorted(even_lots(web)))


if __name__ == "__main__":
    unittest.main()
