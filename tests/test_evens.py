"""[A3], [F1] to [F4], [F6], [F7]: both-even lots, their base and numbers, and lots that are split."""

import itertools
import random
import unittest

from botheven.errors import Held, TooMany, Unfit
from botheven.evens import all_lots, both_error, lot_at, lot_base, lot_many, lot_number
from botheven.lots import is_cut, is_even, lot_error, sum_of
from botheven.rounds import rounds
from botheven.splits import split
from botheven.webs import matrix_of
from tests.oracles import ALONE, CROWDED, DOUBLED, FULL, KITE, ODD_VALUES, ROW, SQUARE, TRIANGLE, TRIPLE, WIDE
from tests.oracles import added, all_cuts, all_lots_of, both_even_lots, caught, check_call, even, even_cuts
from tests.oracles import one_closed_way, random_web, some_webs, thick_webs

NINE = (9, tuple((k, k + 1) for k in range(8)) * 2)
TEN = (10, tuple((k, k + 1) for k in range(9)) * 2)


def large_webs():
    rng = random.Random(14)
    found = [ROW, DOUBLED, CROWDED, WIDE, NINE, TEN]
    return found + [random_web(rng, 12, count) for count in (11, 14, 20, 30, 40)]


class BothError(unittest.TestCase):
    def test_small_webs(self):
        for web in some_webs():
            good = both_even_lots(web)
            for lot in all_lots_of(web):
                found = both_error(web, lot)
                odd = [place for place in range(web[0]) if sum(web[1][tie].count(place) for tie in lot) % 2]
                if lot in good:
                    self.assertIsNone(found)
                elif odd:
                    self.assertEqual(found, ("place", odd[0]))
                else:
                    self.check_round(web, lot, found)

    def check_round(self, web, lot, found):
        """Check that a round is told that has an odd number of the lot's ties."""
        word, told = found
        self.assertEqual(word, "round")
        self.assertTrue(one_closed_way(web, told))
        self.assertEqual(len(set(told) & set(lot)) % 2, 1)

    def test_what_lot_error_tells_comes_first(self):
        for value in (None, [0], (1, 0), (0, 0), (0, 9), (True, 1), (0, -1), ("0",), (0, 1, 2, 3, 4, 5), "01", {}):
            self.assertEqual(both_error(KITE, value), lot_error(KITE, value))
            self.assertIsNotNone(both_error(KITE, value))

    def test_webs_with_more_than_500_rounds(self):
        for web in (CROWDED, random_web(random.Random(15), 12, 40), (2, ((0, 1),) * 40)):
            caught(self, TooMany, rounds, web)
            everything = tuple(range(len(web[1])))
            for lot in [(), everything, (0,), (0, 1)] + even_cuts(web)[:50]:
                found = both_error(web, lot)
                if lot in even_cuts(web):
                    self.assertIsNone(found)
                elif even(web, lot):
                    self.check_round(web, lot, found)
                else:
                    self.assertEqual(found[0], "place")
        full = (9, tuple(itertools.combinations(range(9), 2)))
        self.check_round(full, tuple(range(36)), both_error(full, tuple(range(36))))

    def test_any_value(self):
        for value in ODD_VALUES:
            for web in (ALONE, TRIPLE, KITE):
                check_call(self, both_error, {"web": web, "value": value})
                if lot_error(web, value) is not None:
                    self.assertEqual(repr(both_error(web, value)), repr(lot_error(web, value)))


class Base(unittest.TestCase):
    def check_base(self, web, good):
        """Check that the base is the one told, and that the lots of good are just its sums."""
        base = lot_base(web)
        self.assertIs(type(base), tuple)
        self.assertEqual(lot_many(web), len(base))
        least = [lot[0] for lot in base]
        self.assertEqual(least, sorted(set(least)))
        for lot in base:
            self.assertEqual([tie for tie in lot if tie in least], [lot[0]])
            self.assertIn(lot, good)
        self.assertEqual(len(good), 2 ** len(base))
        check_call(self, lot_base, {"web": web})
        check_call(self, lot_many, {"web": web})

    def test_small_webs(self):
        for web in some_webs() + thick_webs()[:9]:
            good = both_even_lots(web) if len(web[1]) < 10 else even_cuts(web)
            self.assertEqual(good, even_cuts(web))
            self.check_base(web, good)
            base = lot_base(web)
            sums = [added(*some) for many in range(len(base) + 1) for some in itertools.combinations(base, many)]
            self.assertEqual(sorted(sums), sorted(good))

    def test_large_webs(self):
        for web in large_webs():
            self.check_base(web, even_cuts(web))

    def test_many_is_told_by_the_rank_of_the_matrix(self):
        for web in some_webs() + thick_webs() + large_webs():
            self.assertEqual(lot_many(web), web[0] - 1 - rank_modulo_2(matrix_of(web)))


def rank_modulo_2(matrix):
    """Return the rank of a matrix modulo 2."""
    rows = [[number % 2 for number in line] for line in matrix]
    rank = 0
    for column in range(len(matrix)):
        lead = next((line for line in rows[rank:] if line[column]), None)
        if lead is None:
            continue
        rows.remove(lead)
        rows = [[a ^ b for a, b in zip(line, lead)] if line[column] and k >= rank else line
                for k, line in enumerate(rows)]
        rows.insert(rank, lead)
        rank += 1
    return rank


class Numbers(unittest.TestCase):
    def test_all_lots(self):
        for web in some_webs() + thick_webs() + [NINE]:
            good = even_cuts(web)
            self.assertEqual(all_lots(web), tuple(good))
            check_call(self, all_lots, {"web": web})
            for number, lot in enumerate(good):
                self.assertEqual(lot_at(web, number), lot)
                self.assertEqual(lot_number(web, lot), number)

    def test_numbers_in_binary_tell_the_lots_of_the_base(self):
        for web in some_webs() + [NINE, TEN, DOUBLED]:
            base = lot_base(web)
            for number in range(0, 2 ** len(base), 1 + 2 ** len(base) // 64):
                figures = bin(number)[2:].zfill(len(base)) if base else ""
                some = [lot for figure, lot in zip(figures, base) if figure == "1"]
                self.assertEqual(lot_at(web, number), added(*some))

    def test_too_many_at_just_more_than_256(self):
        self.assertEqual(len(all_lots(NINE)), 256)
        self.assertEqual(caught(self, TooMany, all_lots, TEN).limit, 256)
        self.assertEqual(caught(self, TooMany, all_lots, web=DOUBLED).limit, 256)

    def test_there_and_back_with_many_lots(self):
        lots = [lot_at(DOUBLED, number) for number in range(2 ** 11)]
        self.assertEqual(lots, even_cuts(DOUBLED))
        for number in range(0, 2 ** 11, 7):
            self.assertEqual(lot_number(DOUBLED, lots[number]), number)
        caught(self, Unfit, lot_at, DOUBLED, 2 ** 11)

    def test_no_number(self):
        for web in (ALONE, KITE, FULL, TRIPLE):
            many = 2 ** lot_many(web)
            for value in ODD_VALUES:
                if type(value) is int and 0 <= value < many:
                    self.assertEqual(lot_number(web, lot_at(web, value)), value)
                else:
                    caught(self, Unfit, lot_at, web, value)
                check_call(self, lot_at, {"web": web, "number": value})
            for value in (True, False, -1, many, many + 1, "0", (0,), None, [0]):
                caught(self, Unfit, lot_at, web=web, number=value)
            self.assertEqual(lot_at(web, 0), ())

    def test_no_both_even_lot(self):
        for web in some_webs():
            good = both_even_lots(web)
            for lot in all_lots_of(web):
                if lot not in good:
                    caught(self, Unfit, lot_number, web, lot)
        check_call(self, lot_number, {"web": FULL, "lot": (0, 1, 4, 5)})
        check_call(self, lot_number, {"web": FULL, "lot": (0, 1, 3)})


class Split(unittest.TestCase):
    def check_split(self, web, lot, good):
        """Check the pair, or the both-even lot that forbids it."""
        holding = [one for one in good if len(set(one) & set(lot)) % 2]
        if holding:
            self.assertIn(caught(self, Held, split, web, lot).held, holding)
            return
        pair = split(web, lot)
        self.assertIs(type(pair), tuple)
        cut, evened = pair
        self.assertIsNone(lot_error(web, cut))
        self.assertIsNone(lot_error(web, evened))
        self.assertTrue(is_cut(web, cut))
        self.assertTrue(is_even(web, evened))
        self.assertEqual(sum_of((cut, evened)), lot)

    def test_small_webs(self):
        for web in some_webs():
            good = both_even_lots(web)
            for lot in all_lots_of(web):
                self.check_split(web, lot, good)

    def test_large_webs(self):
        rng = random.Random(16)
        for web in large_webs() + thick_webs():
            good = even_cuts(web)
            for _ in range(10):
                self.check_split(web, tuple(k for k in range(len(web[1])) if rng.random() < 0.5), good)

    def test_splits_differ_by_both_even_lots(self):
        for web in some_webs()[::5]:
            cuts, good = all_cuts(web), both_even_lots(web)
            for lot in all_lots_of(web):
                if any(len(set(one) & set(lot)) % 2 for one in good):
                    continue
                cut, evened = split(web, lot)
                others = [other for other in cuts if even(web, added(lot, other))]
                self.assertEqual({added(cut, other) for other in others}, set(good))
                self.assertEqual({added(evened, added(lot, other)) for other in others}, set(good))

    def test_calls(self):
        for lot in ((), (0,), (4,), (0, 2), (0, 1, 2, 3, 4)):
            check_call(self, split, {"web": KITE, "lot": lot})
        self.assertEqual(caught(self, Held, split, web=SQUARE, lot=(1,)).held, (0, 1, 2, 3))
        self.assertEqual(split(ALONE, ()), ((), ()))


class Renamed(unittest.TestCase):
    def test_places_renamed_leave_the_lots_as_they_are(self):
        rng = random.Random(17)
        for web in some_webs():
            names = list(range(web[0]))
            rng.shuffle(names)
            other = (web[0], tuple(tuple(sorted((names[a], names[b]))) for a, b in web[1]))
            self.assertEqual(all_lots(other), all_lots(web))
            self.assertEqual(lot_base(other), lot_base(web))

    def test_ties_in_another_order_carry_the_lots_along(self):
        rng = random.Random(18)
        for web in some_webs():
            order = list(range(len(web[1])))
            rng.shuffle(order)
            other = (web[0], tuple(web[1][tie] for tie in order))
            carried = {tuple(sorted(order.index(tie) for tie in lot)) for lot in all_lots(web)}
            self.assertEqual(set(all_lots(other)), carried)
            self.assertEqual(lot_many(other), lot_many(web))

    def test_some_known_numbers(self):
        rings = [(many, tuple((k, k + 1) for k in range(many - 1)) + ((0, many - 1),)) for many in range(2, 13)]
        self.assertEqual([lot_many(web) for web in rings], [1, 0] * 5 + [1])
        fulls = [(many, tuple(itertools.combinations(range(many), 2))) for many in range(1, 10)]
        self.assertEqual([lot_many(web) for web in fulls], [0, 0, 0, 2, 0, 4, 0, 6, 0])
        self.assertEqual(lot_base(TRIANGLE), ())
        self.assertEqual(lot_base(ROW), ())


if __name__ == "__main__":
    unittest.main()
