"""[A3], [J1] to [J3], [J6]: standings modulo k."""

import itertools
import math
import random
import unittest

from botheven.deeds import deed_error
from botheven.errors import Apart, Sloped
from botheven.evens import both_error, lot_base, lot_many
from botheven.marks import led_by
from botheven.rests import classes_modulo, joined_modulo, parts_modulo
from botheven.slopes import slope_base, slope_error
from tests.oracles import ALONE, CROWDED, DOUBLED, FAT, FULL, KITE, ODD_VALUES, ROW, SQUARE, TAIL, TRIANGLE, TRIO
from tests.oracles import all_lots_of, all_rounds_of, bent_webs, caught, check_call, dot, even_cuts, grown_web
from tests.oracles import in_lattice, large_webs, lattice, less_by, outcome, random_standing, row, slow_done, some_webs
from tests.oracles import stars_of, thick_webs

FAR = 10 ** 12
RESTS = (2, 3, 4, 5, 6, 9, 32, 999, 1000)


def moves_modulo(web, k):
    """Return the lattice of all that stars, rounds and multiples of k at a tie add together."""
    ties = range(len(web[1]))
    multiples = [tuple(k if tie == other else 0 for other in ties) for tie in ties]
    return lattice([row(web, lot) for lot in stars_of(web) + all_rounds_of(web)] + multiples)


def small_webs():
    return [web for web in some_webs()[::2] + bent_webs() if len(web[1]) < 9]


class Classes(unittest.TestCase):
    def test_held_against_all_standings_modulo_k(self):
        many = 0
        for web in [web for web in some_webs() + bent_webs() if len(web[1]) < 7]:
            for k in (2, 3, 4, 5, 6, 9):
                if k ** len(web[1]) > 1100:
                    continue
                many += 1
                moves = [row(web, lot) for lot in stars_of(web) + all_rounds_of(web)]
                self.assertEqual(classes_modulo(web, k), self.classes_found(web, k, moves))
        self.assertGreater(many, 100)

    def classes_found(self, web, k, moves):
        """Return how many classes there are, by going from standing to standing."""
        left = set(itertools.product(range(k), repeat=len(web[1])))
        found = 0
        while left:
            found += 1
            waiting = [left.pop()]
            while waiting:
                one = waiting.pop()
                for move in moves:
                    other = tuple((number + item) % k for number, item in zip(one, move))
                    if other in left:
                        left.remove(other)
                        waiting.append(other)
        return found

    def test_all_k_by_the_lattice(self):
        for web in small_webs():
            for k in RESTS:
                base = moves_modulo(web, k)
                self.assertEqual(classes_modulo(web, k), math.prod(abs(one[column]) for column, one in base))

    def test_as_told(self):
        for web in large_webs() + thick_webs() + bent_webs():
            slopes, lots = len(slope_base(web)), lot_many(web)
            for k in RESTS:
                self.assertEqual(classes_modulo(web, k), k ** slopes * math.gcd(2, k) ** (lots - slopes))
        self.assertEqual(classes_modulo(DOUBLED, 1000), 10 ** 33)
        self.assertEqual([classes_modulo(ALONE, k) for k in (2, 3, 1000)], [1, 1, 1])

    def test_thick_webs_and_divisors(self):
        for web in thick_webs():
            for k in RESTS:
                self.assertEqual(classes_modulo(web, k), 1 if k % 2 else len(even_cuts(web)))
        for web in bent_webs() + large_webs():
            for k in (4, 12, 30, 1000):
                for part in [part for part in range(2, k) if k % part == 0]:
                    self.assertLessEqual(classes_modulo(web, part), classes_modulo(web, k))

    def test_calls(self):
        for web in (ALONE, KITE, TRIO, CROWDED):
            for k in (2, 3, 1000):
                check_call(self, classes_modulo, {"web": web, "k": k})


class Joined(unittest.TestCase):
    def check(self, web, k, standing, other):
        """Check the deeds, or the slope, or the lot; return a word for which it was."""
        check_call(self, joined_modulo, {"web": web, "k": k, "standing": standing, "other": other})
        off = less_by(standing, other)
        if any(dot(slope, off) % k for slope in slope_base(web)):
            slope = caught(self, Sloped, joined_modulo, web, k, standing, other).slope
            self.assertIsNone(slope_error(web, slope))
            self.assertNotEqual(dot(slope, off) % k, 0)
            self.assertIs(parts_modulo(web, k, standing, other, ("slope", slope)), True)
            return "slope"
        if k % 2 == 0 and any(sum(off[tie] for tie in lot) % 2 for lot in lot_base(web)):
            lot = caught(self, Apart, joined_modulo, web, k, standing, other).lot
            self.assertIsNone(both_error(web, lot))
            self.assertEqual(sum(off[tie] for tie in lot) % 2, 1)
            self.assertIs(parts_modulo(web, k, standing, other, ("lot", lot)), True)
            return "lot"
        deeds = joined_modulo(web, k, standing, other)
        self.assertIs(type(deeds), tuple)
        for deed in deeds:
            self.assertIsNone(deed_error(web, deed))
        there = slow_done(web, standing, deeds)
        self.assertEqual([number % k for number in there], [number % k for number in other])
        return "deeds"

    def near(self, rng, web, k, standing, far):
        """Return a standing whose difference k divides with each slope."""
        other = list(random_standing(rng, web, -far, far))
        for slope in slope_base(web):
            tie = next(tie for tie, item in enumerate(slope) if item)
            other[tie] -= (dot(slope, other) - dot(slope, standing)) % k
        return tuple(other)

    def test_held_against_all_stars_and_rounds(self):
        rng = random.Random(240)
        words = set()
        for web in small_webs():
            for k in (2, 3, 4, 6, 15, 1000):
                moves = moves_modulo(web, k)
                standing = random_standing(rng, web, -9, 9)
                for other in (self.near(rng, web, k, standing, 20), random_standing(rng, web, -9, 9)):
                    word = self.check(web, k, standing, other)
                    self.assertEqual(word == "deeds", in_lattice(moves, less_by(standing, other)))
                    words.add((word, k % 2))
        self.assertEqual(words, {("deeds", 0), ("deeds", 1), ("slope", 0), ("slope", 1), ("lot", 0)})

    def test_all_small_standings(self):
        for web, k in ((KITE, 2), (KITE, 3), (SQUARE, 4), (SQUARE, 3), (FAT, 4), (FAT, 3), (TRIANGLE, 6)):
            moves, nought = moves_modulo(web, k), (0,) * len(web[1])
            for other in itertools.product(range(k), repeat=len(web[1])):
                self.assertEqual(self.check(web, k, nought, other) == "deeds", in_lattice(moves, other))

    def test_great_webs_and_numbers_at_the_bounds(self):
        rng = random.Random(241)
        words = []
        for web in large_webs() + thick_webs()[-8:] + [grown_web(rng, 12) for _ in range(20)]:
            many = len(web[1])
            for k in (2, 9, 1000):
                for far in (5, FAR - 1000):
                    standing = random_standing(rng, web, -far, far)
                    words.append(self.check(web, k, standing, self.near(rng, web, k, standing, far)))
                    words.append(self.check(web, k, standing, random_standing(rng, web, -far, far)))
                self.check(web, k, (-FAR,) * many, (FAR,) * many)
                self.check(web, k, (FAR,) * many, (-FAR,) * many)
                signs = tuple(rng.choice((-FAR, FAR)) for _ in range(many))
                self.check(web, k, signs, tuple(-number for number in signs))
        self.assertTrue(all(words.count(word) > 40 for word in ("deeds", "slope", "lot")))

    def test_k_that_divides_a_sum_and_k_that_does_not(self):
        nought, other = (0,) * 4, (6, 0, 0, 0)
        self.assertEqual([self.check(SQUARE, k, nought, other) for k in (2, 3, 4, 5, 6, 12)],
                         ["deeds", "deeds", "slope", "slope", "deeds", "slope"])
        self.assertEqual([self.check(FAT, k, nought, (3, 0, 0, 0)) for k in (2, 3, 4, 5, 1000)],
                         ["lot", "deeds", "lot", "deeds", "lot"])
        self.assertEqual(self.check(ALONE, 2, (), ()), "deeds")

    def test_joined_standings_are_joined_modulo_each_k(self):
        rng = random.Random(242)
        for web in small_webs():
            standing, other = random_standing(rng, web, -3, 3), random_standing(rng, web, -3, 3)
            led = not outcome(led_by, web, standing, other).startswith("raises")
            words = [self.check(web, k, standing, other) for k in range(2, 33)]
            self.assertEqual(led, set(words) == {"deeds"})

    def test_far_sums_are_told_by_some_k_too(self):
        # What all k from 2 to 32 divide is more than any sum of a slope of the base can be.
        every = math.lcm(*range(2, 33))
        self.assertGreater(every, 40 * 2 * FAR)
        for web in (SQUARE, KITE, DOUBLED, TRIO):
            slope = slope_base(web)[0]
            for far in (FAR, FAR - 1):
                one = tuple(-far * item for item in slope)
                other = tuple(far * item for item in slope)
                caught(self, Sloped, led_by, web, one, other)
                self.assertIn("slope", [self.check(web, k, one, other) for k in range(2, 33)])


class Parts(unittest.TestCase):
    def test_all_slopes_and_lots_of_small_webs(self):
        rng = random.Random(243)
        found = set()
        for web in [KITE, TRIO, TAIL, FAT, SQUARE, FULL] + bent_webs()[:12]:
            good = even_cuts(web)
            for k in (2, 3, 4, 9):
                one, other = random_standing(rng, web, -9, 9), random_standing(rng, web, -9, 9)
                off = less_by(one, other)
                for lot in all_lots_of(web)[:70]:
                    told = k % 2 == 0 and lot in good and sum(off[tie] for tie in lot) % 2 == 1
                    self.assertIs(parts_modulo(web, k, one, other, ("lot", lot)), told)
                    found.add((told, k % 2))
                for slope in itertools.islice(itertools.product((-1, 0, 1), repeat=len(web[1])), 0, None, 13):
                    told = slope_error(web, slope) is None and dot(slope, off) % k != 0
                    self.assertIs(parts_modulo(web, k, one, other, ("slope", slope)), told)
                for slope in slope_base(web):
                    for times in (1, -1, 2, 3, k, 0, 10 ** 390, 10 ** 390 + 1):
                        value = ("slope", tuple(times * item for item in slope))
                        told = times * dot(slope, off) % k != 0
                        self.assertIs(parts_modulo(web, k, one, other, value), told)
        self.assertEqual(found, {(False, 0), (False, 1), (True, 0)})

    def test_any_value(self):
        nought, bent, slope, lot = (0,) * 4, (1, 0, 0, 0), (1, -1, 1, -1), (0, 1, 2, 3)
        wrong = [(word, what) for word in ("slope", "lot") for what in ODD_VALUES] + list(ODD_VALUES)
        wrong += [
            ["slope", slope], ("slope", list(slope)), ("slope", slope, 0), ("slope",), ["lot", lot], ("lot", list(lot)),
            ("lot", lot, lot), ("Slope", slope), (slope, "slope"), ("slope", lot), ("lot", slope), (None, lot),
            slope, lot,
            ("slope", (True, -1, 1, -1)), ("lot", (False, 1, 2, 3)), ("lot", (0, True, 2, 3)), ("slope", (0, 0, 0, 0)),
            ("slope", (4, -4, 4, -4)), ("lot", ()), ("lot", (0, 1)), ("lot", (3, 2, 1, 0)), ("slope", (1, -1, 0, 0)),
        ]
        for value in wrong:
            self.assertIs(parts_modulo(SQUARE, 4, nought, bent, value), False)
            named = {"web": SQUARE, "k": 4, "standing": nought, "other": bent, "value": value}
            check_call(self, parts_modulo, named)
        for value, told in ((("slope", slope), (True, True)), (("lot", lot), (True, False))):
            self.assertEqual([parts_modulo(SQUARE, k, nought, bent, value) for k in (4, 3)], list(told))

    def test_lots_for_even_k_alone(self):
        nought, bent = (0,) * 4, (1, 0, 0, 0)
        for k in range(2, 20):
            self.assertIs(parts_modulo(FAT, k, nought, bent, ("lot", (0, 1, 2, 3))), k % 2 == 0)
        self.assertIs(parts_modulo(ROW, 2, (0,) * 11, (1,) * 11, ("lot", ())), False)


if __name__ == "__main__":
    unittest.main()
