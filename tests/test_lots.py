"""[A3], [A7], [A8], [A10]: lots, sums, cuts and even lots."""

import itertools
import random
import unittest

from botheven.errors import Unfit
from botheven.lots import cut_of, is_cut, is_even, lot_error, places_of_cut, sum_of
from tests.oracles import ALONE, CROWDED, KITE, ODD_VALUES, TRIPLE, WIDE
from tests.oracles import added, all_cuts, all_lots_of, caught, check_call, even, even_lots, some_webs


def slow_error(web, value):
    """Return what lot_error tells, in the document's words."""
    if type(value) is not tuple:
        return "form"
    for place, item in enumerate(value):
        if type(item) is not int or item < 0 or item >= len(web[1]):
            return ("item", place)
        if place and item <= value[place - 1]:
            return ("item", place)
    return None


class LotError(unittest.TestCase):
    def test_lots(self):
        for web in (ALONE, TRIPLE, KITE):
            for lot in all_lots_of(web):
                self.assertIsNone(lot_error(web, lot))
        self.assertIsNone(lot_error(WIDE, tuple(range(40))))

    def test_form(self):
        for value in (None, True, 0, "01", [], [0, 1], {}, {0: 1}):
            self.assertEqual(lot_error(KITE, value), "form")

    def test_first_wrong_item(self):
        told = (
            ((5,), 0), ((0, 5), 1), ((-1,), 0), ((0, 0), 1), ((0, 1, 1, 9), 2), ((1, 0), 1), ((4, 3, None), 1),
            ((True,), 0), ((False, 1), 0), ((0, True), 1), (("0",), 0), ((0, None), 1), ((0, (1,)), 1), (([],), 0),
            ((0, 1, 2, 3, 4, 5), 5), ((0, {}), 1), ((10 ** 300,), 0), ((2, -3), 1),
        )
        for value, place in told:
            self.assertEqual(lot_error(KITE, value), ("item", place), value)
        self.assertEqual(lot_error(ALONE, (0,)), ("item", 0))

    def test_any_value(self):
        for value in ODD_VALUES:
            for web in (ALONE, TRIPLE, KITE):
                self.assertEqual(repr(lot_error(web, value)), repr(slow_error(web, value)))
                self.assertEqual(repr(lot_error(web, (0, value))), repr(slow_error(web, (0, value))))
            check_call(self, lot_error, {"web": KITE, "value": value})

    def test_all_short_tuples(self):
        for many in range(4):
            for value in itertools.product((-1, 0, 1, 2, 3, True, None), repeat=many):
                self.assertEqual(lot_error(TRIPLE, value), slow_error(TRIPLE, value))


class Sums(unittest.TestCase):
    def test_sum_of(self):
        rng = random.Random(4)
        lots = all_lots_of(KITE)
        self.assertEqual(sum_of(()), ())
        self.assertEqual(sum_of(((),)), ())
        for lot in lots:
            self.assertEqual(sum_of((lot,)), lot)
            self.assertEqual(sum_of((lot, lot)), ())
            self.assertEqual(sum_of((lot, lot, lot)), lot)
        for _ in range(300):
            some = [rng.choice(lots) for _ in range(rng.randint(0, 6))]
            told = added(*some)
            self.assertEqual(sum_of(tuple(some)), told)
            rng.shuffle(some)
            self.assertEqual(sum_of(tuple(some)), told)
            check_call(self, sum_of, {"lots": tuple(some)})


class Cuts(unittest.TestCase):
    def test_cut_of(self):
        for web in some_webs():
            for many in range(web[0] + 1):
                for places in itertools.combinations(range(web[0]), many):
                    ends = [len([place for place in tie if place in places]) for tie in web[1]]
                    told = tuple(k for k, number in enumerate(ends) if number == 1)
                    self.assertEqual(cut_of(web, places), told)
                    others = tuple(place for place in range(web[0]) if place not in places)
                    self.assertEqual(cut_of(web, others), told)
            self.assertEqual(cut_of(web, ()), ())
            self.assertEqual(cut_of(web, tuple(range(web[0]))), ())
        check_call(self, cut_of, {"web": KITE, "places": (0, 2)})

    def test_is_even_is_cut_and_places(self):
        for web in some_webs():
            cuts = all_cuts(web)
            for lot in all_lots_of(web):
                self.assertIs(is_even(web, lot), even(web, lot))
                self.assertIs(is_cut(web, lot), lot in cuts)
                if lot in cuts:
                    self.assertEqual(places_of_cut(web, lot), cuts[lot])
                else:
                    caught(self, Unfit, places_of_cut, web, lot)

    def test_calls(self):
        for lot in ((), (0, 1), (0, 1, 2, 3), (0,)):
            for call in (is_even, is_cut, places_of_cut):
                check_call(self, call, {"web": KITE, "lot": lot})

    def test_places_of_cut_of_a_large_web(self):
        for places in ((), (11,), (1, 3, 5, 7, 9, 11), tuple(range(1, 12)), (4, 5, 6)):
            for web in (CROWDED, WIDE):
                self.assertEqual(places_of_cut(web, cut_of(web, places)), places)


class WhatHolds(unittest.TestCase):
    def test_sums_and_common_ties(self):
        for web in some_webs()[::3]:
            evens, cuts = even_lots(web), list(all_cuts(web))
            for one in evens:
                self.assertTrue(all(is_even(web, sum_of((one, other))) for other in evens))
                self.assertTrue(all(len(set(one) & set(cut)) % 2 == 0 for cut in cuts))
            for one in cuts:
                self.assertTrue(all(is_cut(web, sum_of((one, other))) for other in cuts))


if __name__ == "__main__":
    unittest.main()
