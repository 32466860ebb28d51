"""[A3], [K4], [K5]: webs put together, many-fold and cut small."""

import random
import unittest

from botheven.errors import Unfit
from botheven.evens import lot_many
from botheven.together import at_place, by_tie, cut_small, many_fold
from botheven.webs import web_error
from tests.oracles import ALONE, BOW, DOUBLED, FULL, KITE, ODD_VALUES, ROW, SQUARE, TAIL, TRIANGLE, TRIPLE, WIDE
from tests.oracles import caught, check_call, grown_web, random_web, some_webs

TWO, LONE = (2, ((0, 1), (0, 1))), (2, ((0, 1),))


def slow_at_place(web, place, other, further):
    """Return both webs with these places made one, by the document's words."""
    names, next_one = {further: place}, web[0]
    for q in range(other[0]):
        if q != further:
            names[q] = next_one
            next_one += 1
    ties = [tuple(sorted((names[one], names[two]))) for one, two in other[1]]
    return (next_one, web[1] + tuple(ties))


def slow_by_tie(web, place, other, further):
    ties = [(one + web[0], two + web[0]) for one, two in other[1]]
    return (web[0] + other[0], web[1] + tuple(ties) + ((place, further + web[0]),))


def slow_small(web, m):
    many, ties = web[0], []
    for one, other in web[1]:
        here = one
        for _ in range(m - 1):
            ties.append((min(here, many), max(here, many)))
            here, many = many, many + 1
        ties.append((min(here, other), max(here, other)))
    return (many, tuple(ties))


def small_webs():
    rng = random.Random(300)
    return some_webs()[::4] + [ALONE, KITE, BOW, TAIL, FULL] + [grown_web(rng, 5) for _ in range(10)]


class Both(unittest.TestCase):
    def test_tie_by_tie(self):
        self.assertEqual(at_place(TRIANGLE, 1, LONE, 1), (4, ((0, 1), (0, 2), (1, 2), (1, 3))))
        self.assertEqual(at_place(TRIANGLE, 2, LONE, 0), (4, ((0, 1), (0, 2), (1, 2), (2, 3))))
        self.assertEqual(at_place(ALONE, 0, KITE, 2), (4, ((1, 2), (0, 2), (0, 3), (1, 3), (0, 1))))
        self.assertEqual(at_place(KITE, 3, ALONE, 0), KITE)
        self.assertEqual(at_place(ALONE, 0, ALONE, 0), ALONE)
        self.assertEqual(by_tie(ALONE, 0, ALONE, 0), LONE)
        self.assertEqual(by_tie(LONE, 1, TWO, 1), (4, ((0, 1), (2, 3), (2, 3), (1, 3))))

    def test_further_in_any_place(self):
        for web in (SQUARE, TRIPLE, ALONE, BOW):
            for other in (KITE, TRIANGLE, TWO, BOW):
                for place in range(web[0]):
                    for further in range(other[0]):
                        args = (web, place, other, further)
                        self.assertEqual(at_place(*args), slow_at_place(*args))
                        self.assertEqual(by_tie(*args), slow_by_tie(*args))
                        self.assertIsNone(web_error(at_place(*args)))
                        self.assertIsNone(web_error(by_tie(*args)))

    def test_names_of_the_places_of_other_are_in_order(self):
        star = (5, ((0, 4), (1, 4), (2, 4), (3, 4)))
        self.assertEqual(at_place(LONE, 1, star, 2), (6, ((0, 1), (2, 5), (3, 5), (1, 5), (4, 5))))
        self.assertEqual(at_place(LONE, 0, star, 4), (6, ((0, 1), (0, 2), (0, 3), (0, 4), (0, 5))))

    def test_just_12_places_and_13(self):
        row = (6, tuple((k, k + 1) for k in range(5)))
        seven = (7, tuple((k, k + 1) for k in range(6)))
        self.assertEqual(at_place(row, 5, seven, 0), ROW)
        self.assertEqual(by_tie(row, 5, row, 0), (12, row[1] + tuple((k, k + 1) for k in range(6, 11)) + ((5, 6),)))
        caught(self, Unfit, by_tie, row, 5, seven, 0)
        caught(self, Unfit, at_place, seven, 0, seven, 6)
        caught(self, Unfit, at_place, ROW, 0, LONE, 0)
        caught(self, Unfit, by_tie, web=ALONE, place=0, other=ROW, further=3)
        self.assertEqual(at_place(ROW, 11, ALONE, 0), ROW)

    def test_just_40_ties_and_41(self):
        for first in (1, 17, 20, 38):
            web, other, more = [(2, ((0, 1),) * many) for many in (first, 40 - first, 41 - first)]
            self.assertEqual(at_place(web, 1, other, 1), (3, ((0, 1),) * first + ((1, 2),) * (40 - first)))
            caught(self, Unfit, at_place, web, 1, more, 1)
            caught(self, Unfit, by_tie, web, 1, other, 1)
            less = (2, ((0, 1),) * (39 - first))
            self.assertEqual(by_tie(web, 1, less, 0), (4, ((0, 1),) * first + ((2, 3),) * (39 - first) + ((1, 2),)))
        self.assertEqual(at_place(WIDE, 4, ALONE, 0), WIDE)
        caught(self, Unfit, by_tie, (2, ((0, 1),) * 40), 0, ALONE, 0)

    def test_calls(self):
        for call in (at_place, by_tie):
            for web, other in ((KITE, BOW), (ALONE, TRIPLE), (ROW, LONE), (LONE, LONE)):
                check_call(self, call, {"web": web, "place": 0, "other": other, "further": 1})


class Each(unittest.TestCase):
    def test_many_fold(self):
        self.assertEqual(many_fold(LONE, 3), TRIPLE)
        self.assertEqual(many_fold(KITE, 2)[1][:5], ((0, 1), (0, 1), (1, 2), (1, 2), (2, 3)))
        for web in small_webs():
            for m in range(1, 8):
                if len(web[1]) * m > 40:
                    caught(self, Unfit, many_fold, web, m)
                else:
                    ties = [ends for ends in web[1] for _ in range(m)]
                    self.assertEqual(many_fold(web, m), (web[0], tuple(ties)))
        self.assertEqual(many_fold(KITE, 1), KITE)

    def test_cut_small(self):
        self.assertEqual(cut_small(LONE, 4), (5, ((0, 2), (2, 3), (3, 4), (1, 4))))
        self.assertEqual(cut_small(LONE, 1), LONE)
        for web in small_webs():
            for m in range(1, 14):
                if web[0] + len(web[1]) * (m - 1) > 12:
                    caught(self, Unfit, cut_small, web, m)
                else:
                    self.assertEqual(cut_small(web, m), slow_small(web, m))
                    self.assertIsNone(web_error(cut_small(web, m)))

    def test_just_as_many_as_may_be(self):
        self.assertEqual(many_fold(LONE, 40), (2, ((0, 1),) * 40))
        caught(self, Unfit, many_fold, LONE, 41)
        self.assertEqual(len(many_fold(KITE, 8)[1]), 40)
        caught(self, Unfit, many_fold, KITE, 9)
        self.assertEqual(cut_small(LONE, 11)[0], 12)
        caught(self, Unfit, cut_small, LONE, 12)
        self.assertEqual(cut_small(TWO, 6)[0], 12)
        caught(self, Unfit, cut_small, TWO, 7)
        self.assertEqual(cut_small((2, ((0, 1),) * 10), 2)[0], 12)
        caught(self, Unfit, cut_small, (2, ((0, 1),) * 11), 2)
        self.assertEqual(cut_small(DOUBLED, 1), DOUBLED)
        caught(self, Unfit, cut_small, ROW, 2)
        self.assertEqual(many_fold(ROW, 3)[1][:4], ((0, 1), (0, 1), (0, 1), (1, 2)))
        caught(self, Unfit, many_fold, ROW, 4)

    def test_great_m_with_no_tie(self):
        for m in (1, 2, 99, 10 ** 30, 10 ** 399):
            self.assertEqual(many_fold(ALONE, m), ALONE)
            self.assertEqual(cut_small(ALONE, m), ALONE)
            if m > 40:
                caught(self, Unfit, many_fold, LONE, m)
                caught(self, Unfit, cut_small, web=KITE, m=m)

    def test_unfit(self):
        for value in [value for value in ODD_VALUES if type(value) is not int] + [0, -1, -5, -10 ** 399]:
            for web in (ALONE, LONE, KITE, WIDE):
                caught(self, Unfit, many_fold, web, value)
                caught(self, Unfit, cut_small, web, value)
                caught(self, Unfit, cut_small, m=value, web=web)

    def test_calls(self):
        for call in (many_fold, cut_small):
            for web in (ALONE, KITE, TRIPLE):
                for m in (1, 2, 3, True, 0, "2", [1]):
                    check_call(self, call, {"web": web, "m": m})


class What_holds(unittest.TestCase):
    def test_b_of_both_webs_adds_up(self):
        rng = random.Random(301)
        webs = small_webs()
        for _ in range(300):
            web, other = rng.choice(webs), rng.choice(webs)
            args = (web, rng.randrange(web[0]), other, rng.randrange(other[0]))
            if len(web[1]) + len(other[1]) < 40 and web[0] + other[0] < 13:
                for call in (at_place, by_tie):
                    self.assertEqual(lot_many(call(*args)), lot_many(web) + lot_many(other))

    def test_many_fold_and_cut_small(self):
        rng = random.Random(302)
        some = set()
        for web in small_webs() + [random_web(rng, 8, 10) for _ in range(5)] + [ALONE, LONE, TWO]:
            for m in range(1, 12):
                if len(web[1]) * m <= 40:
                    some.add(("fold", m))
                    self.assertEqual(lot_many(many_fold(web, m)), lot_many(web) if m % 2 else web[0] - 1)
                if len(web[1]) * m <= 40 and web[0] + len(web[1]) * (m - 1) <= 12:
                    some.add(("small", m))
                    self.assertEqual(lot_many(cut_small(web, m)), lot_many(web) if m % 2 else len(web[1]) - web[0] + 1)
        self.assertTrue({(word, m) for word in ("fold", "small") for m in range(1, 6)} <= some)


if __name__ == "__main__":
    unittest.main()
