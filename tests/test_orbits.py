"""[A3], [Q4], [Q5]: orbits of both-even lots and of classes."""

import itertools
import random
import time
import unittest

from botheven.classes import class_number, standard
from botheven.errors import Thin, TooMany
from botheven.evens import all_lots, lot_many
from botheven.namings import moved, symmetries, tie_moves
from botheven.orbits import class_orbits, lot_orbits
from tests.oracles import ALONE, BOW, CROWDED, DOUBLED, FAT, FULL, KITE, ROW, SQUARE, TAIL, TRIANGLE, TRIO, TRIPLE
from tests.oracles import both_even_lots, caught, check_call, random_web, row, some_webs, thick_webs

SIDES = (8, tuple(itertools.product(range(3), range(3, 8))) * 2)
CHAIN = (4, ((0, 1), (1, 2), (2, 3)) * 4)


def small_webs():
    rng = random.Random(400)
    found = some_webs()[::4] + [ALONE, KITE, FULL, TRIPLE, FAT, SQUARE, TRIO, BOW, TAIL, TRIANGLE]
    found += [(4, ((0, 1), (1, 2), (2, 3)) * 2), (4, ((0, 1), (0, 2), (0, 3)) * 2),
              (5, ((0, 1), (1, 2), (2, 3), (3, 4)) * 2)]
    return [web for web in found + [random_web(rng, 5, 9) for _ in range(5)] if web[0] < 7 and len(web[1]) < 10]


def lots_by_hand(web):
    """Return the pair of the first lot and of the size for each orbit of lots."""
    lots, found = both_even_lots(web), []
    moves = [tie_moves(web, names) for names in symmetries(web)]
    while lots:
        orbit = {tuple(sorted(row_of[tie] for tie in lots[0])) for row_of in moves}
        found.append((min(orbit, key=lambda lot: row(web, lot)), len(orbit)))
        lots = [lot for lot in lots if lot not in orbit]
    return tuple(found)


def classes_by_hand(web):
    """Return the pair of the least standing and of the size for each orbit of classes."""
    left = {standard(web, one) for one in itertools.product((0, 1), repeat=len(web[1]))}
    found = []
    while left:
        orbit = {standard(web, moved(web, names, min(left))) for names in symmetries(web)}
        found.append((min(orbit), len(orbit)))
        left -= orbit
    return tuple(found)


class Lots(unittest.TestCase):
    def test_held_against_lots_led_along_all_symmetries(self):
        sizes = set()
        for web in small_webs():
            found = lot_orbits(web)
            self.assertEqual(found, lots_by_hand(web))
            sizes.update(size for _, size in found)
        self.assertTrue({1, 2, 3} <= sizes)

    def test_great_webs(self):
        begun = time.monotonic()
        self.assertEqual((lot_many(SIDES), len(symmetries(SIDES))), (7, 720))
        found = lot_orbits(SIDES)
        self.assertEqual(sum(size for _, size in found), 128)
        self.assertEqual(found[0], ((), 1))
        self.assertEqual(len(class_orbits(SIDES)), len(found))
        self.assertLess(time.monotonic() - begun, 20)
        eight = (8, tuple((k, k + 1) for k in range(7)) * 2)
        self.assertEqual(len(lot_orbits(eight)), (128 + 16) // 2)

    def test_too_many(self):
        for web in (ROW, DOUBLED, CROWDED):
            self.assertEqual(caught(self, TooMany, lot_orbits, web).limit, 8)
        full = (7, tuple(itertools.combinations(range(7), 2)))
        self.assertEqual(caught(self, TooMany, lot_orbits, full).limit, 1000)
        self.assertEqual(caught(self, TooMany, class_orbits, full).limit, 1000)

    def test_calls(self):
        for web in (KITE, FULL, ALONE, DOUBLED, TRIPLE):
            for call in (lot_orbits, class_orbits):
                check_call(self, call, {"web": web})


class Classes(unittest.TestCase):
    def test_held_against_classes_led_along_all_symmetries(self):
        counts = set()
        for web in [web for web in thick_webs() if web[0] < 7 and len(web[1]) < 10] + [FULL, TRIPLE, ALONE]:
            found = class_orbits(web)
            self.assertEqual(found, classes_by_hand(web))
            counts.add(len(found))
        self.assertTrue({1, 2} <= counts)

    def test_chain(self):
        rng = random.Random(401)
        found = class_orbits(CHAIN)
        self.assertEqual(sum(size for _, size in found), 8)
        self.assertEqual([one for one, _ in found], sorted(one for one, _ in found))
        self.assertEqual(found[:2], (((0,) * 12, 1), ((0,) * 11 + (1,), 2)))
        numbers = {class_number(CHAIN, one) for one, _ in found}
        self.assertEqual(len(numbers), len(found))
        for _ in range(20):
            standing = tuple(rng.randint(-5, 5) for _ in range(12))
            reached = {standard(CHAIN, moved(CHAIN, names, standing)) for names in symmetries(CHAIN)}
            self.assertIn((min(reached), len(reached)), found)

    def test_thin_ahead_of_too_many(self):
        for web in (KITE, ROW, DOUBLED, SQUARE, (9, ROW[1][:8]), (8, tuple((0, k) for k in range(1, 8)))):
            self.assertIn(len(caught(self, Thin, class_orbits, web).lot), (1, 2))
        nine = (9, tuple(itertools.combinations(range(9), 2)))
        self.assertEqual(caught(self, TooMany, class_orbits, nine).limit, 8)


class What_holds(unittest.TestCase):
    def test_sizes(self):
        for web in small_webs() + [web for web in thick_webs() if web[0] < 7]:
            many = len(symmetries(web))
            sizes = [size for _, size in lot_orbits(web)]
            self.assertEqual(sum(sizes), 2 ** lot_many(web))
            self.assertTrue(all(many % size == 0 for size in sizes))
            still = 0
            for names in symmetries(web):
                moves = tie_moves(web, names)
                still += len([lot for lot in all_lots(web) if tuple(sorted(moves[tie] for tie in lot)) == lot])
            self.assertEqual(len(sizes) * many, still)

    def test_as_many_orbits_of_classes_as_of_lots(self):
        for web in [web for web in thick_webs() if web[0] < 7]:
            sizes = [size for _, size in class_orbits(web)]
            self.assertEqual(len(sizes), len(lot_orbits(web)))
            self.assertEqual(sum(sizes), 2 ** lot_many(web))
            self.assertTrue(all(len(symmetries(web)) % size == 0 for size in sizes))


if __name__ == "__main__":
    unittest.main()
