"""[A3], [D1], [D4], [D5]: classes of standings of thick webs, their standard standings and numbers."""

import itertools
import random
import unittest

from botheven.classes import class_at, class_count, class_number, parities, standard
from botheven.errors import Apart, Thin, Unfit
from botheven.evens import lot_base, lot_many
from botheven.joining import joined_by
from botheven.trees import tree_count
from tests.oracles import ALONE, DOUBLED, FAT, FULL, KITE, ODD_VALUES, ROW, SQUARE, TRIPLE
from tests.oracles import all_cuts, caught, check_call, even_cuts, in_lattice, lattice, less_by, random_standing
from tests.oracles import all_rounds_of, row, slow_done, some_webs, stars_of, thick_webs

FAR = 10 ** 12


def sums_on(lots, standing):
    """Return the sums of the standing on the lots, modulo 2."""
    return tuple(sum(standing[tie] for tie in lot) % 2 for lot in lots)


def least_ones(web):
    """Return for each class the least standing of 0 and 1, ascending, by a search through all of these."""
    lots, found = even_cuts(web), {}
    for standing in itertools.product((0, 1), repeat=len(web[1])):
        found.setdefault(sums_on(lots, standing), standing)
    return sorted(found.values())


def small_thick_webs():
    return [web for web in thick_webs() if len(web[1]) < 12]


class Search(unittest.TestCase):
    def test_held_against_all_standings_of_0_and_1(self):
        for web in small_thick_webs():
            least, lots = least_ones(web), even_cuts(web)
            numbers = {sums_on(lots, standing): number for number, standing in enumerate(least)}
            self.assertEqual(class_count(web), len(least))
            self.assertEqual([class_at(web, number) for number in range(len(least))], least)
            standings = list(itertools.product((0, 1), repeat=len(web[1])))
            for standing in standings[::1 + len(standings) // 200]:
                number = numbers[sums_on(lots, standing)]
                self.assertEqual(class_number(web, standing), number)
                self.assertEqual(standard(web, standing), least[number])
                self.assertEqual(parities(web, standing), sums_on(lot_base(web), standing))

    def test_classes_are_those_that_deeds_make(self):
        for web in [web for web in small_thick_webs() if len(web[1]) < 8]:
            moves = lattice([row(web, lot) for lot in stars_of(web) + all_rounds_of(web)])
            standings = list(itertools.product((0, 1, 3), repeat=len(web[1])))
            for standing in standings[::1 + len(standings) // 60]:
                led = [one for one in least_ones(web) if in_lattice(moves, less_by(standing, one))]
                self.assertEqual(led, [standard(web, standing)])

    def test_numbers_below_nought_and_far_beyond_one(self):
        rng = random.Random(40)
        for web in small_thick_webs():
            least, lots = least_ones(web), even_cuts(web)
            for low, high in ((-FAR, FAR), (-3, 3), (-FAR, -FAR), (FAR, FAR), (0, 9), (-9, -1)):
                standing = random_standing(rng, web, low, high)
                told = [one for one in least if sums_on(lots, one) == sums_on(lots, standing)]
                self.assertEqual([standard(web, standing)], told)
                self.assertEqual(class_number(web, standing), least.index(told[0]))
                self.assertEqual(parities(web, standing), sums_on(lot_base(web), standing))


class Numbers(unittest.TestCase):
    def test_there_and_back(self):
        for web in thick_webs():
            last = None
            for number in range(class_count(web)):
                standing = class_at(web, number)
                self.assertEqual(class_number(web, standing), number)
                self.assertEqual(standard(web, standing), standing)
                self.assertTrue(last is None or last < standing)
                last = standing

    def test_no_number(self):
        for web in (ALONE, TRIPLE, FULL, FAT):
            many = class_count(web)
            for value in ODD_VALUES + (-1, many, many + 1, many - 0.5, str(many - 1), (many - 1,)):
                if type(value) is int and 0 <= value < many:
                    self.assertEqual(class_number(web, class_at(web, value)), value)
                else:
                    caught(self, Unfit, class_at, web, value)
                check_call(self, class_at, {"web": web, "number": value})

    def test_12_places_and_40_ties(self):
        rng = random.Random(41)
        webs = [web for web in thick_webs() if web[0] == 12]
        self.assertIn(40, [len(web[1]) for web in webs])
        for web in webs + [(12, ROW[1] * 3 + ((0, 11),) * 7), (12, ROW[1] * 3 + ((3, 8),))]:
            lots, base = even_cuts(web), lot_base(web)
            greatest = {lot[-1] for lot in lots if lot}
            self.assertEqual(class_count(web), len(lots))
            for _ in range(10):
                standing = random_standing(rng, web, -FAR, FAR)
                told = standard(web, standing)
                self.assertEqual(sums_on(lots, told), sums_on(lots, standing))
                self.assertEqual(class_number(web, standing), class_number(web, told))
                # Less would be 0 first at a tie that has 1; but on a lot that ends there the sum would be another one.
                self.assertTrue(all(tie in greatest for tie, item in enumerate(told) if item == 1))
                self.assertEqual(set(told) - {0, 1}, set())
                self.assertEqual(class_at(web, class_number(web, standing)), told)
                self.assertEqual(parities(web, standing), sums_on(base, standing))

    def test_some(self):
        self.assertEqual((class_count(ALONE), class_at(ALONE, 0), standard(ALONE, ())), (1, (), ()))
        self.assertEqual((parities(ALONE, ()), class_number(ALONE, ())), ((), 0))
        self.assertEqual([class_at(FAT, number) for number in range(2)], [(0, 0, 0, 0), (0, 0, 0, 1)])
        self.assertEqual(class_count((12, ROW[1] * 3)), 1)


class Joined(unittest.TestCase):
    def test_what_joined_by_leads_to_is_of_the_same_class(self):
        rng = random.Random(42)
        found = []
        for web in thick_webs():
            for low, high in ((0, 1), (-9, 9), (-FAR, FAR)):
                standing, other = (random_standing(rng, web, low, high) for _ in range(2))
                alike = class_number(web, standing) == class_number(web, other)
                self.assertEqual(standard(web, standing) == standard(web, other), alike)
                self.assertEqual(parities(web, standing) == parities(web, other), alike)
                found.append(alike)
                if alike:
                    self.assertEqual(slow_done(web, standing, joined_by(web, standing, other)), other)
                else:
                    caught(self, Apart, joined_by, web, standing, other)
                there = joined_by(web, standing, standard(web, standing))
                self.assertEqual(slow_done(web, standing, there), standard(web, standing))
        self.assertEqual(set(found), {True, False})

    def test_as_many_classes_as_both_even_lots(self):
        for web in thick_webs():
            self.assertEqual(class_count(web), 2 ** lot_many(web))
            self.assertEqual(class_count(web) == 1, tree_count(web) % 2 == 1)


class NotThick(unittest.TestCase):
    def test_thin_ahead_of_all_else(self):
        for web in [web for web in some_webs() if any(0 < len(cut) < 3 for cut in all_cuts(web))] + [ROW, DOUBLED]:
            short = [cut for cut in all_cuts(web) if 0 < len(cut) < 3]
            nought = (0,) * len(web[1])
            self.assertIn(caught(self, Thin, class_count, web).lot, short)
            for call in (parities, standard, class_number):
                self.assertIn(caught(self, Thin, call, web, nought).lot, short)
            for value in (0, 1, -1, True, None, "0", 10 ** 399, [], (0,)):
                self.assertIn(caught(self, Thin, class_at, web, value).lot, short)
        self.assertEqual(caught(self, Thin, class_count, web=SQUARE).lot, caught(self, Thin, class_at, SQUARE, 0).lot)


class Calls(unittest.TestCase):
    def test_calls(self):
        for web in (ALONE, FULL, FAT, KITE):
            check_call(self, class_count, {"web": web})
            for standing in ((0,) * len(web[1]), tuple(range(-2, len(web[1]) - 2))):
                for call in (parities, standard, class_number):
                    check_call(self, call, {"web": web, "standing": standing})


if __name__ == "__main__":
    unittest.main()
