"""[A3], [O1] to [O5]: boxes, their parts, and ways of steps in them."""

import itertools
import random
import time
import unittest

from botheven.boxes import box_part, box_parts, box_way, frozen, least_top
from botheven.errors import NoWay, TooMany, Unfit
from botheven.marks import marks_of
from tests.oracles import ALONE, CROWDED, FAT, FULL, KITE, ODD_VALUES, ROW, SQUARE, TRIANGLE, TRIPLE, WIDE
from tests.oracles import all_rounds_of, bent_webs, caught, check_call, one_closed_way, random_web, some_webs, stars_of

TWO, LONE = (2, ((0, 1), (0, 1))), (2, ((0, 1),))
FIVE = (5, tuple(itertools.combinations(range(5), 2)))
TEN = (2, ((0, 1),) * 10)


def all_of(web, top):
    """Return all standings of the box, ascending."""
    return list(itertools.product(range(top + 1), repeat=len(web[1])))


def goals_of(web, top, standing):
    """Return the set of the standings of the box to which steps lead."""
    found = set()
    for lot in stars_of(web) + all_rounds_of(web):
        for times in (1, -1):
            goal = tuple(number + times * (tie in lot) for tie, number in enumerate(standing))
            if goal != standing and all(0 <= number <= top for number in goal):
                found.add(goal)
    return found


def layers_from(web, top, start):
    """Return a dict: each standing of the part of start, with how few steps lead there."""
    found, layer, many = {start: 0}, {start}, 0
    while layer:
        many += 1
        layer = {goal for one in layer for goal in goals_of(web, top, one)} - set(found)
        found.update({goal: many for goal in layer})
    return found


def parts_of(web, top):
    """Return the list of all parts, each an ascending tuple of standings."""
    found, met = [], set()
    for standing in all_of(web, top):
        if standing not in met:
            part = layers_from(web, top, standing)
            met |= set(part)
            found.append(tuple(sorted(part)))
    return found


def small_boxes():
    rng = random.Random(360)
    webs = some_webs()[::5] + bent_webs()[::4] + [ALONE, LONE, TWO, TRIPLE, FAT, KITE, FULL, SQUARE, TRIANGLE]
    webs += [random_web(rng, 4, 6) for _ in range(4)]
    return [(web, top) for web in webs for top in (1, 2, 3, 9) if (top + 1) ** len(web[1]) <= 300]


def check_way(test, web, top, standing, other, deeds):
    """Check that deeds are steps within the box, one behind another, and lead from standing to other."""
    for word, target, times in deeds:
        test.assertIn(times, (1, -1))
        test.assertIs(type(times), int)
        if word == "star":
            lot = stars_of(web)[target]
        else:
            test.assertEqual(word, "round")
            test.assertTrue(one_closed_way(web, target))
            lot = target
        goal = tuple(number + times * (tie in lot) for tie, number in enumerate(standing))
        test.assertNotEqual(goal, standing)
        test.assertTrue(all(0 <= number <= top for number in goal))
        standing = goal
    test.assertEqual(standing, other)


class Parts(unittest.TestCase):
    def test_held_against_a_search_through_all_standings(self):
        counts = set()
        for web, top in small_boxes():
            parts = parts_of(web, top)
            counts.add(len(parts))
            self.assertEqual(box_parts(web, top), len(parts))
            lone = tuple(one for one in all_of(web, top) if goals_of(web, top, one) == set())
            self.assertEqual(frozen(web, top), lone)
            for part in parts[::1 + len(parts) // 5]:
                for standing in part[::1 + len(part) // 5]:
                    self.assertEqual(box_part(web, top, standing), part)
        self.assertGreater(len(counts), 10)

    def test_some(self):
        self.assertEqual([box_parts(ALONE, top) for top in range(1, 10)], [1] * 9)
        self.assertEqual((frozen(ALONE, 9), box_part(ALONE, 9, ()), box_way(ALONE, 9, (), ())), (((),), ((),), ()))
        self.assertEqual((box_parts(LONE, 9), frozen(LONE, 9)), (1, ()))
        self.assertEqual(box_part(LONE, 3, (2,)), ((0,), (1,), (2,), (3,)))
        self.assertEqual(box_part(TWO, 1, (0, 1)), ((0, 1),))

    def test_too_many_ahead_of_all_else(self):
        boxes = ((TEN, 2), (WIDE, 1), (WIDE, 9), (CROWDED, 1), (ROW, 1), (SQUARE, 6), ((2, ((0, 1),) * 4), 9),
                 ((3, ROW[1][:2] * 2), 6))
        for web, top in boxes:
            for call, args in ((box_parts, ()), (frozen, ())):
                self.assertEqual(caught(self, TooMany, call, web, top, *args).limit, 2000)
            for value in (None, (0,) * len(web[1]), (10,) * len(web[1]), [0]):
                self.assertEqual(caught(self, TooMany, box_part, web, top, value).limit, 2000)
                self.assertEqual(caught(self, TooMany, box_way, web, top, value, value).limit, 2000)

    def test_2000_and_less(self):
        for web, top in ((TEN, 1), (SQUARE, 5), (TRIANGLE, 9), ((2, ((0, 1),) * 3), 9), (FULL, 2), (FIVE, 1)):
            self.assertLessEqual((top + 1) ** len(web[1]), 2000)
            begun = time.monotonic()
            many = box_parts(web, top)
            nought = (0,) * len(web[1])
            self.assertIn(nought, box_part(web, top, nought))
            self.assertEqual(box_way(web, top, nought, nought), ())
            self.assertLess(len(frozen(web, top)), many + 1)
            self.assertLess(time.monotonic() - begun, 20)
        self.assertEqual(box_parts(TEN, 1), len(parts_of(TEN, 1)))

    def test_box_part_of_any_value(self):
        for value in ODD_VALUES + ((0, 0, 3), (0, -1, 0), (0, 0), (0, 0, 0, 0), [0, 0, 0], (0, True, 0), (0, "0", 0),
                                   {0: 0}):
            caught(self, Unfit, box_part, TRIANGLE, 2, value)
            caught(self, Unfit, box_way, TRIANGLE, 2, value, (0, 0, 0))
            caught(self, Unfit, box_way, TRIANGLE, 2, (0, 0, 0), value)
            caught(self, Unfit, box_way, web=TRIANGLE, top=2, other=value, standing=value)
            if value != ():
                caught(self, Unfit, box_part, ALONE, 2, value)
        self.assertEqual(len(box_part(web=TRIANGLE, top=2, standing=(0, 2, 0))), 27)

    def test_calls(self):
        for web, top in ((TRIANGLE, 2), (KITE, 1), (ALONE, 3), (WIDE, 1)):
            for call in (box_parts, frozen):
                check_call(self, call, {"web": web, "top": top})
            for value in ((0,) * len(web[1]), [0], True):
                check_call(self, box_part, {"web": web, "top": top, "standing": value})
                check_call(self, box_way, {"web": web, "top": top, "standing": value, "other": value})


class Ways(unittest.TestCase):
    def test_as_few_steps_as_the_search_needs(self):
        rng = random.Random(361)
        lengths, none = set(), 0
        for web, top in small_boxes():
            rows = all_of(web, top)
            for _ in range(6):
                standing = rng.choice(rows)
                found = layers_from(web, top, standing)
                for other in rng.sample(rows, min(6, len(rows))) + [rng.choice(sorted(found))]:
                    if other in found:
                        deeds = box_way(web, top, standing, other)
                        check_way(self, web, top, standing, other, deeds)
                        self.assertEqual(len(deeds), found[other])
                        lengths.add(len(deeds))
                    else:
                        none += 1
                        self.assertEqual(caught(self, NoWay, box_way, web, top, standing, other).reached, len(found))
        self.assertTrue(set(range(6)) <= lengths)
        self.assertGreater(none, 50)

    def test_equal_ones(self):
        for web, top in small_boxes():
            for standing in all_of(web, top)[::17]:
                self.assertEqual(box_way(web, top, standing, standing), ())


class Least(unittest.TestCase):
    def slow(self, web, one, other):
        """Return what is told of the least top, by trying each box."""
        for top in range(1, 10):
            if max(one + other, default=0) > top:
                continue
            if (top + 1) ** len(web[1]) > 2000:
                return "TooMany"
            if other in layers_from(web, top, one):
                return top
        return None

    def test_held_against_all_boxes(self):
        rng = random.Random(362)
        told = set()
        for web in [ALONE, LONE, TWO, TRIPLE, FAT, TRIANGLE, SQUARE, KITE, FULL] + bent_webs()[:8]:
            for most in (1, 2, 3, 5, 9, 11):
                for _ in range(2 if len(web[1]) > 3 else 6):
                    one = tuple(rng.randint(0, most) for _ in web[1])
                    other = tuple(rng.randint(0, most) for _ in web[1])
                    if rng.random() < 0.3 and most <= 9 and (most + 1) ** len(web[1]) <= 2000:
                        other = rng.choice(sorted(layers_from(web, most, one)))
                    want = self.slow(web, one, other)
                    told.add(want)
                    if want == "TooMany":
                        self.assertEqual(caught(self, TooMany, least_top, web, one, other).limit, 2000)
                    else:
                        self.assertEqual(least_top(web, one, other), want)
        self.assertTrue({None, "TooMany", 1, 2, 3, 4, 5, 9} <= told)

    def test_each_top(self):
        for top in range(1, 10):
            self.assertEqual(least_top(TWO, (top, top), (0, 0)), top)
            self.assertEqual(least_top(LONE, (top,), (top,)), top)

    def test_none_and_too_many(self):
        self.assertEqual((least_top(TWO, (0, 1), (1, 0)), least_top(LONE, (10,), (10,)),
                          least_top(LONE, (10 ** 12,), (0,))), (None,) * 3)
        self.assertIsNone(least_top(WIDE, (10,) + (0,) * 39, (0,) * 40))
        self.assertEqual(least_top(web=LONE, standing=(9,), other=(0,)), 9)
        for one, other in (((0,) * 40, (0,) * 40), ((9,) * 40, (9,) * 40), ((0,) * 40, (1,) * 40)):
            caught(self, TooMany, least_top, WIDE, one, other)
        self.assertEqual(least_top(SQUARE, (5, 5, 5, 5), (5, 5, 5, 5)), 5)
        caught(self, TooMany, least_top, SQUARE, (6, 5, 5, 5), (6, 5, 5, 5))
        caught(self, TooMany, least_top, SQUARE, (9, 0, 0, 0), (9, 0, 0, 0))
        self.assertIsNone(least_top(SQUARE, (10, 0, 0, 0), (10, 0, 0, 0)))
        # Their sums modulo 2 differ on all four ties, but only the boxes to the top 5 may be looked through.
        caught(self, TooMany, least_top, FAT, (0, 0, 0, 0), (1, 0, 0, 0))
        self.assertEqual(least_top(TRIPLE, (0, 0, 0), (0, 0, 1)), 1)
        self.assertIsNone(least_top(TWO, (0, 9), (9, 0)))

    def test_calls(self):
        for web, one, other in ((TWO, (0, 3), (1, 4)), (TWO, (0, 1), (1, 0)), (SQUARE, (9, 0, 0, 0), (0,) * 4),
                                (ALONE, (), ())):
            check_call(self, least_top, {"web": web, "standing": one, "other": other})


class What_holds(unittest.TestCase):
    def test_one_part_is_joined_and_one_part_of_greater_boxes(self):
        for web, top in small_boxes():
            parts = parts_of(web, top)
            marks = {tuple(marks_of(web, one) for one in part) for part in parts}
            self.assertTrue(all(len(set(rows)) == 1 for rows in marks))
            self.assertLessEqual(len({rows[0] for rows in marks}), box_parts(web, top))
            if (top + 2) ** len(web[1]) <= 300:
                for part in parts:
                    self.assertTrue(set(part) <= set(box_part(web, top + 1, part[0])))

    def test_mirrored(self):
        for web, top in small_boxes():
            for part in parts_of(web, top)[:6]:
                mirror = [tuple(top - number for number in one) for one in part]
                self.assertEqual(box_part(web, top, mirror[0]), tuple(sorted(mirror)))
            cold = frozen(web, top)
            self.assertEqual(tuple(sorted(tuple(top - number for number in one) for one in cold)), cold)


if __name__ == "__main__":
    unittest.main()
