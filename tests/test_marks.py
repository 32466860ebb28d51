"""[A3], [E7] to [E9]: marks, and standings of any web that deeds lead to one another."""

import itertools
import random
import unittest

from botheven.deeds import deed_error
from botheven.errors import Apart, Sloped
from botheven.evens import both_error, lot_base
from botheven.marks import class_many, is_parted, led_by, marks_of
from botheven.slopes import slope_base, slope_error
from tests.oracles import ALONE, CROWDED, DOUBLED, FAT, FULL, KITE, ODD_VALUES, ROW, SQUARE, TAIL, TRIO
from tests.oracles import all_lots_of, all_rounds_of, bent_webs, caught, check_call, dot, even_cuts, grown_web
from tests.oracles import in_lattice, large_webs, lattice, less_by, random_standing, row, slow_done, some_webs, stars_of
from tests.oracles import thick_webs

FAR = 10 ** 12


def moves_of(web):
    """Return the lattice of all that stars and rounds add together."""
    return lattice([row(web, lot) for lot in stars_of(web) + all_rounds_of(web)])


def slow_marks(web, standing):
    """Return the sums with the base of slopes, and those on the base of lots modulo 2."""
    sums = tuple(dot(slope, standing) for slope in slope_base(web))
    return sums, tuple(sum(standing[tie] for tie in lot) % 2 for lot in lot_base(web))


def random_deeds(rng, web):
    """Return some stars and rounds with times, rounds of small webs alone."""
    found = [("star", rng.randrange(web[0]), rng.choice((-3, -1, 1, 2, 10 ** 9))) for _ in range(3)]
    lots = all_rounds_of(web) if len(web[1]) < 10 else []
    found += [("round", rng.choice(lots), rng.choice((-2, -1, 1, 5, 10 ** 9))) for _ in range(3 if lots else 0)]
    rng.shuffle(found)
    return tuple(found)


class Marks(unittest.TestCase):
    def test_marks_of(self):
        rng = random.Random(70)
        for web in some_webs() + bent_webs() + thick_webs() + large_webs():
            for far in (1, 9, FAR):
                standing = random_standing(rng, web, -far, far)
                self.assertEqual(marks_of(web, standing), slow_marks(web, standing))
            check_call(self, marks_of, {"web": web, "one": standing})

    def test_deeds_leave_marks_as_they_are(self):
        rng = random.Random(71)
        for web in some_webs() + bent_webs() + large_webs():
            for _ in range(3):
                one = random_standing(rng, web, -9, 9)
                other = slow_done(web, one, random_deeds(rng, web))
                self.assertEqual(marks_of(web, other), marks_of(web, one))

    def test_class_many(self):
        for web in some_webs() + bent_webs() + thick_webs() + large_webs():
            slopes, many = class_many(web)
            self.assertEqual((slopes, slopes + many), (len(slope_base(web)), len(lot_base(web))))
            check_call(self, class_many, {"web": web})
        for web in thick_webs():
            self.assertEqual(class_many(web)[0], 0)
        self.assertEqual([class_many(web) for web in (ALONE, ROW, DOUBLED, SQUARE)], [(0, 0), (0, 0), (11, 0), (1, 0)])

    def test_as_many_classes_as_told_for_each_tuple_of_sums(self):
        for web in [web for web in bent_webs() + some_webs() if len(web[1]) < 6]:
            slopes, many = class_many(web)
            found = {}
            for standing in itertools.product((-1, 0, 1), repeat=len(web[1])):
                sums, rests = marks_of(web, standing)
                found.setdefault(sums, set()).add(rests)
            self.assertEqual(len(found[(0,) * slopes]), 2 ** many)
            self.assertTrue(all(len(rests) <= 2 ** many for rests in found.values()))
            self.assertEqual(len(found) > 1, slopes > 0)


class Led(unittest.TestCase):
    def check(self, web, one, other):
        """Check the deeds, or the slope, or the lot; return a word for which it was."""
        named = {"web": web, "one": one, "other": other}
        check_call(self, led_by, named)
        sums, rests = slow_marks(web, less_by(one, other))
        self.assertEqual(marks_of(web, one) == marks_of(web, other), not any(sums) and not any(rests))
        if any(sums):
            slope = caught(self, Sloped, led_by, web, one, other).slope
            self.assertIsNone(slope_error(web, slope))
            self.assertNotEqual(dot(slope, one), dot(slope, other))
            self.assertTrue(is_parted(web, one, other, ("slope", slope)))
            return "slope"
        if any(rests):
            lot = caught(self, Apart, led_by, web, one, other).lot
            self.assertIsNone(both_error(web, lot))
            self.assertEqual(sum(other[tie] - one[tie] for tie in lot) % 2, 1)
            self.assertTrue(is_parted(web, one, other, ("lot", lot)))
            return "lot"
        deeds = led_by(web, one, other)
        self.assertIs(type(deeds), tuple)
        for deed in deeds:
            self.assertIsNone(deed_error(web, deed))
        self.assertEqual(slow_done(web, one, deeds), other)
        return "deeds"

    def near(self, rng, web, one, far):
        """Return a standing that has the same sums with slopes, if it is no farther off than may be."""
        other = random_standing(rng, web, -far, far)
        for slope in slope_base(web):
            tie = next(k for k, item in enumerate(slope) if item)
            less = dot(slope, other) - dot(slope, one)
            other = other[:tie] + (other[tie] - less,) + other[tie + 1:]
        return tuple(max(-FAR, min(FAR, number)) for number in other)

    def test_held_against_all_stars_and_rounds(self):
        rng = random.Random(72)
        words = set()
        for web in some_webs()[::2] + bent_webs():
            moves = moves_of(web)
            for far in (1, 5, FAR // 100):
                one = random_standing(rng, web, -far, far)
                for other in (self.near(rng, web, one, far), random_standing(rng, web, -far, far)):
                    words.add(self.check(web, one, other))
                    led = in_lattice(moves, less_by(one, other))
                    self.assertEqual(led, marks_of(web, one) == marks_of(web, other))
        self.assertEqual(words, {"deeds", "slope", "lot"})

    def test_all_small_standings(self):
        for web in (KITE, FAT, SQUARE, (3, ((0, 1), (0, 1), (1, 2))), (2, ((0, 1),) * 5)):
            moves, nought = moves_of(web), (0,) * len(web[1])
            for other in itertools.product((-1, 0, 1), repeat=len(web[1])):
                led = self.check(web, nought, other) == "deeds"
                self.assertEqual(led, in_lattice(moves, other))

    def test_what_random_deeds_lead_to(self):
        rng = random.Random(73)
        for web in some_webs() + bent_webs() + thick_webs() + large_webs():
            one = random_standing(rng, web, -9, 9)
            self.assertEqual(self.check(web, one, slow_done(web, one, random_deeds(rng, web))), "deeds")

    def test_great_webs(self):
        rng = random.Random(74)
        words = []
        for web in large_webs() + thick_webs()[-8:] + [grown_web(rng, 12) for _ in range(60)]:
            for far in (3, FAR // 1000):
                one = random_standing(rng, web, -far, far)
                words.append(self.check(web, one, self.near(rng, web, one, far)))
                words.append(self.check(web, one, random_standing(rng, web, -far, far)))
                self.assertEqual(self.check(web, one, one), "deeds")
        self.assertTrue(all(words.count(word) > 20 for word in ("deeds", "slope", "lot")))

    def test_numbers_at_the_bounds(self):
        rng = random.Random(75)
        for web in large_webs() + thick_webs()[:9] + [KITE, TAIL, TRIO, FAT]:
            many = len(web[1])
            for one, other in ((-FAR, FAR), (FAR, -FAR), (FAR, FAR), (FAR, -FAR + 1)):
                self.check(web, (one,) * many, (other,) * many)
            signs = tuple(rng.choice((-FAR, FAR)) for _ in range(many))
            self.check(web, signs, tuple(-number for number in signs))

    def test_web_of_one_place(self):
        self.assertEqual(self.check(ALONE, (), ()), "deeds")
        self.assertEqual(marks_of(ALONE, ()), ((), ()))

    def test_slopes_come_ahead_of_lots(self):
        # The only tie with another number stands in a slope and in a both-even lot.
        self.assertEqual(self.check(KITE, (0,) * 5, (1, 0, 0, 0, 0)), "slope")
        self.assertTrue(is_parted(KITE, (0,) * 5, (1, 0, 0, 0, 0), ("lot", (0, 1, 2, 3))))
        caught(self, Sloped, led_by, web=SQUARE, one=(0,) * 4, other=(0, 0, 0, 2))
        self.assertEqual(caught(self, Apart, led_by, FAT, (0,) * 4, (0, 0, 0, 3)).lot, (0, 1, 2, 3))


class Parted(unittest.TestCase):
    def test_all_slopes_and_lots_of_small_webs(self):
        rng = random.Random(76)
        for web in [KITE, TRIO, TAIL, FAT, SQUARE, FULL] + bent_webs()[:20]:
            one, other = random_standing(rng, web, -4, 4), random_standing(rng, web, -4, 4)
            off, good, moved = less_by(one, other), even_cuts(web), set()
            for lot in all_lots_of(web)[:130]:
                told = lot in good and sum(off[tie] for tie in lot) % 2 == 1
                self.assertIs(is_parted(web, one, other, ("lot", lot)), told)
            for slope in itertools.islice(itertools.product((-1, 0, 1), repeat=len(web[1])), 0, None, 11):
                told = slope_error(web, slope) is None and dot(slope, off) != 0
                self.assertIs(is_parted(web, one, other, ("slope", slope)), told)
                moved.add(told)
            for slope in slope_base(web):
                for times in (1, -1, 2, 10 ** 390, 0):
                    value = ("slope", tuple(times * item for item in slope))
                    self.assertIs(is_parted(web, one, other, value), times != 0 and dot(slope, off) != 0)

    def test_any_value(self):
        flat, bent = (0,) * 5, (1, 0, 0, 0, 0)
        slope, lot = (1, -1, 1, -1, 0), (0, 1, 2, 3)
        good = (("slope", slope), ("lot", lot))
        wrong = tuple((word, what) for word in ("slope", "lot") for what in ODD_VALUES) + ODD_VALUES + (
            ["slope", slope], ("slope", list(slope)), ("slope", slope, 0), ("lot", lot, lot), ("slope",),
            ("lot", list(lot)), ("Slope", slope), ("lots", lot), (slope, "slope"), ("slope", lot),
            ("lot", slope), (None, lot), (1, slope),
            ("slope", (True, -1, 1, -1, 0)), ("slope", (1, -1, 1, -1, False)), ("lot", (False, 1, 2, 3)),
            ("slope", (0, 0, 0, 0, 0)), ("lot", ()), ("lot", (0, 1)), ("lot", (3, 2, 1, 0)), ("slope", slope + (0,)),
            ("slope", slope[:4]), ({}, lot), ([], []), slope, lot, ("lot", (0, 1, 4)), ("slope", (1, -1, 0, 0, 0)),
        )
        for value in good:
            self.assertIs(is_parted(KITE, flat, bent, value), True)
            self.assertIs(is_parted(KITE, flat, (2, 2, 1, 1, 7), value), False)
            check_call(self, is_parted, {"web": KITE, "one": flat, "other": bent, "value": value})
        for value in wrong:
            self.assertIs(is_parted(KITE, flat, bent, value), False)
            check_call(self, is_parted, {"web": KITE, "one": flat, "other": bent, "value": value})

    def test_just_where_one_is_not_led_to_other(self):
        rng = random.Random(77)
        for web in [web for web in bent_webs() + some_webs() if len(web[1]) < 8]:
            moves, lots = moves_of(web), even_cuts(web)
            one, other = random_standing(rng, web, -2, 2), random_standing(rng, web, -2, 2)
            values = [("lot", lot) for lot in lots] + [("slope", slope) for slope in slope_base(web)]
            parted = any([is_parted(web, one, other, value) for value in values])
            self.assertEqual(parted, not in_lattice(moves, less_by(one, other)))

    def test_many_ties(self):
        nought = (0,) * 40
        lot = lot_base(CROWDED)[0]
        bent = tuple(int(tie == lot[0]) for tie in range(40))
        self.assertTrue(is_parted(CROWDED, nought, bent, ("lot", lot)))
        self.assertFalse(is_parted(CROWDED, nought, nought, ("lot", lot)))


if __name__ == "__main__":
    unittest.main()
