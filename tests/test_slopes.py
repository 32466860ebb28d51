"""[A3], [E5], [E6]: slopes and their base."""

import itertools
import random
import unittest

from botheven.errors import TooMany
from botheven.evens import both_error
from botheven.rounds import rounds, tree_rounds
from botheven.slopes import slope_base, slope_error
from tests.oracles import ALONE, BOW, CROWDED, DOUBLED, FAT, KITE, ODD_VALUES, ROW, SQUARE, TAIL, TRIO
from tests.oracles import added, all_rounds_of, bent_webs, caught, check_call, dot, grown_web, large_webs
from tests.oracles import one_closed_way, row, some_webs, stars_of, thick_webs

BITS = 10 ** 399


def is_slope(web, value, found):
    """Tell whether the integers have the sum 0 at each place and on each of these rounds."""
    return not any(sum(value[tie] for tie in lot) for lot in stars_of(web) + found)


def slopes_of(web):
    """Return all tuples of -1, 0 and 1 that are slopes."""
    found = all_rounds_of(web)
    return [value for value in itertools.product((-1, 0, 1), repeat=len(web[1])) if is_slope(web, value, found)]


def lead(slope):
    return next(tie for tie, item in enumerate(slope) if item)


def rank(vectors):
    """Return how many of the vectors are free of one another, modulo a great prime."""
    prime, left, found = 2 ** 61 - 1, [list(one) for one in vectors], 0
    while left:
        one = left.pop()
        column = next((k for k, item in enumerate(one) if item % prime), None)
        if column is not None:
            found += 1
            inverse = pow(one[column], -1, prime)
            left = [[(a - other[column] * inverse * b) % prime for a, b in zip(other, one)] for other in left]
    return found


class Base(unittest.TestCase):
    def check_form(self, web, base):
        """Check that each slope has 1 at its least tie, where the others have 0, in order."""
        self.assertIs(type(base), tuple)
        leads = [lead(slope) for slope in base]
        self.assertEqual(leads, sorted(set(leads)))
        for slope in base:
            self.assertIs(type(slope), tuple)
            self.assertEqual(len(slope), len(web[1]))
            self.assertTrue(all(type(item) is int and -1 <= item <= 1 for item in slope))
            self.assertEqual([slope[tie] for tie in leads], [int(tie == lead(slope)) for tie in leads])

    def small_webs(self):
        webs = [KITE, SQUARE, TAIL, TRIO, FAT, BOW, ALONE] + bent_webs() + some_webs()[::3]
        return [web for web in webs if len(web[1]) < 8]

    def test_held_against_all_tuples(self):
        many = set()
        for web in self.small_webs():
            base, told = slope_base(web), slopes_of(web)
            self.check_form(web, base)
            self.assertTrue(all(slope in told for slope in base))
            for slope in told:
                # What a slope has at the least ties tells which multiples add up to it.
                parts = [(slope[lead(one)], one) for one in base]
                total = tuple(sum(times * one[tie] for times, one in parts) for tie in range(len(web[1])))
                self.assertEqual(total, slope)
            self.assertEqual(base == (), told == [(0,) * len(web[1])])
            many.add(len(base))
        self.assertTrue({0, 1, 2} <= many)

    def test_great_webs(self):
        rng = random.Random(60)
        for web in large_webs() + [grown_web(rng, 12) for _ in range(40)]:
            base = slope_base(web)
            self.check_form(web, base)
            lots = stars_of(web) + self.spanning_rounds(web)
            for slope in base:
                self.assertTrue(is_slope(web, slope, lots))
                self.assertIsNone(slope_error(web, slope))
                odd = tuple(tie for tie, item in enumerate(slope) if item % 2)
                self.assertIsNone(both_error(web, odd))
            # None is missing: as many as the stars and rounds leave free.
            self.assertEqual(len(base), len(web[1]) - rank([row(web, lot) for lot in lots]))

    def spanning_rounds(self, web):
        """Return all rounds, or many of them, if there are very many."""
        try:
            return list(rounds(web))
        except TooMany:
            found = list(tree_rounds(web))
            sums = [added(one, other) for one, other in itertools.combinations(found, 2)]
            return found + [lot for lot in sums if one_closed_way(web, lot)]

    def test_some(self):
        self.assertEqual(slope_base(ALONE), ())
        self.assertEqual(slope_base(ROW), ())
        self.assertEqual(slope_base(CROWDED), ())
        self.assertEqual(slope_base(SQUARE), ((1, -1, 1, -1),))
        told = tuple(tuple(1 if tie == k else -1 if tie == k + 11 else 0 for tie in range(22)) for k in range(11))
        self.assertEqual(slope_base(DOUBLED), told)

    def test_thick_webs_have_none(self):
        for web in thick_webs():
            self.assertEqual(slope_base(web), ())

    def test_calls(self):
        for web in (ALONE, KITE, DOUBLED, CROWDED):
            check_call(self, slope_base, {"web": web})


class Error(unittest.TestCase):
    def check_round(self, web, value, found):
        """Check that a round is told on which the sum is not 0."""
        self.assertEqual((type(found), len(found), found[0]), (tuple, 2, "round"))
        self.assertTrue(one_closed_way(web, found[1]))
        self.assertNotEqual(sum(value[tie] for tie in found[1]), 0)

    def check(self, web, value, all_rounds):
        """Check what is told of a tuple of integers; return its word."""
        found = slope_error(web, value)
        odd = [place for place, lot in enumerate(stars_of(web)) if sum(value[tie] for tie in lot)]
        if odd:
            self.assertEqual(found, ("star", odd[0]))
        elif any(sum(value[tie] for tie in lot) for lot in all_rounds):
            self.check_round(web, value, found)
        else:
            self.assertIsNone(found)
        return found and found[0]

    def test_all_small_tuples(self):
        words = set()
        for web in [KITE, SQUARE, TAIL, TRIO, FAT, BOW, ALONE, (2, ((0, 1),) * 5)] + bent_webs()[:12]:
            found = all_rounds_of(web)
            values = list(itertools.product((-2, -1, 0, 1, 2), repeat=min(6, len(web[1]))))
            for value in values[::1 + len(values) // 400]:
                words.add(self.check(web, value + (0,) * (len(web[1]) - len(value)), found))
            for value in slopes_of(web) if len(web[1]) < 8 else ():
                for times in (1, -3, BITS):
                    words.add(self.check(web, tuple(times * item for item in value), found))
        self.assertEqual(words, {None, "star", "round"})

    def test_sums_of_slopes_and_nought_at_each_place(self):
        # Around an even closed way 1 and -1 by turns: 0 at each place, but not always on each round.
        rng = random.Random(61)
        words = set()
        for web in [web for web in bent_webs() + some_webs() if slope_base(web) or len(web[1]) > 5]:
            found = all_rounds_of(web)
            for lot in [lot for lot in found if len(lot) % 2 == 0]:
                way, value = list(lot), [0] * len(web[1])
                place, sign = web[1][way[0]][0], rng.choice((1, -1, BITS))
                while way:
                    tie = next(tie for tie in way if place in web[1][tie])
                    way.remove(tie)
                    place = sum(web[1][tie]) - place
                    value[tie], sign = sign, -sign
                words.add(self.check(web, tuple(value), found))
        self.assertEqual(words, {None, "round"})

    def test_more_than_500_rounds(self):
        full = (9, tuple(itertools.combinations(range(9), 2)))
        for web in (CROWDED, full, (2, ((0, 1),) * 40)):
            caught(self, TooMany, rounds, web)
            many = len(web[1])
            self.assertIsNone(slope_error(web, (0,) * many))
            self.assertEqual(slope_error(web, (0,) * (many - 1) + (1,))[0], "star")
            # 1 and -1 by turns on two ties, or around four, with the sum 0 at each place.
            lot = (0, 1)
            if web[0] > 2:
                lot = [web[1].index(ends) for ends in ((0, 1), (1, 2), (2, 3), (0, 3))]
            value = [0] * many
            for sign, tie in zip((1, -1, 1, -1), lot):
                value[tie] = sign
            self.check_round(web, value, slope_error(web, tuple(value)))

    def test_form_comes_first(self):
        for value in ODD_VALUES + ((1, -1, 1, -1), (1, -1, 1, -1, 0, 0), [1, -1, 1, -1, 0], (1, -1, True, -1, 0),
                                   (1, -1, 1, -1, False), (1, -1, 1, -1, None), (1, -1, 1, -1, "0"), (1,) * 4 + ((),)):
            self.assertEqual(slope_error(KITE, value), "form")
            check_call(self, slope_error, {"web": KITE, "value": value})
        self.assertEqual(slope_error(KITE, (1, 0, 0, 0, 0)), ("star", 0))
        self.assertEqual(slope_error(KITE, (0, 1, 0, 0, 0)), ("star", 1))
        self.assertEqual(slope_error(TAIL, (1, -1, 1, -1, 0, 5)), ("star", 3))
        for value in ODD_VALUES:
            self.assertEqual(slope_error(ALONE, value), None if value == () and type(value) is tuple else "form")
        check_call(self, slope_error, {"web": FAT, "value": (1, -1, 0, 0)})
        check_call(self, slope_error, {"web": KITE, "value": (1, -1, 1, -1, 0)})


class Holds(unittest.TestCase):
    def test_slopes_are_nought_on_bridges_and_turn_at_places_of_two_ties(self):
        for web in bent_webs() + large_webs():
            for slope in slope_base(web):
                self.assertEqual(dot(slope, slope), sum(abs(item) for item in slope))
                for lot in stars_of(web):
                    if len(lot) == 2:
                        self.assertEqual(slope[lot[0]], -slope[lot[1]])
                    if len(lot) == 1:
                        self.assertEqual(slope[lot[0]], 0)


if __name__ == "__main__":
    unittest.main()
