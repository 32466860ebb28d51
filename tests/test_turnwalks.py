"""[A3], [I4] to [I6]: walks that turn one way and the other by turns, and the both-even lots that they make."""

import itertools
import random
import unittest

from botheven.errors import Unfit
from botheven.evens import all_lots, both_error, lot_at, lot_many
from botheven.turnwalks import lot_of_walks, turn_walks, walks_of_lot
from tests.oracles import all_lots_of, both_even_lots, caught, check_call
from tests.sketches import bundle_drawing, goes_on, grid_drawing, grown_drawing, slow_walks, some_drawings, turned_about
from tests.sketches import wheel_drawing

LONE = ((2, ((0, 1),)), ((0,), (0,)))
RING = ((3, ((0, 1), (0, 2), (1, 2))), ((0, 1), (0, 2), (1, 2)))


def lot_by_hand(drawing, walks, some):
    """Return the lot of the ties that these walks go along just once in all."""
    ties = [tie for number in some for tie, _, _ in walks[number]]
    return tuple(tie for tie in range(len(drawing[0][1])) if ties.count(tie) == 1)


def picks(many):
    """Return all ascending tuples of numbers below many."""
    return [some for count in range(many + 1) for some in itertools.combinations(range(many), count)]


class Walks(unittest.TestCase):
    def test_held_against_walks_gone_one_by_one(self):
        for drawing in some_drawings():
            self.assertEqual(turn_walks(drawing), slow_walks(drawing))

    def test_form(self):
        for drawing in some_drawings():
            found = turn_walks(drawing)
            self.assertIs(type(found), tuple)
            self.assertEqual(list(found), sorted(set(found)))
            for row in found:
                self.assertIs(type(row), tuple)
                self.assertEqual(row[0], min(row))
                for one, other in zip(row, row[1:] + row[:1]):
                    self.assertEqual(goes_on(drawing, one), other)
                    self.assertEqual(one[2], 1 - other[2])

    def test_each_tie_is_gone_along_with_each_turn_once(self):
        for drawing in some_drawings():
            gone = sorted((tie, turn) for row in turn_walks(drawing) for tie, _, turn in row)
            self.assertEqual(gone, [(tie, turn) for tie in range(len(drawing[0][1])) for turn in (0, 1)])

    def test_one_more_than_b_whatever_drawing_it_is(self):
        for drawing in some_drawings():
            self.assertEqual(len(turn_walks(drawing)), lot_many(drawing[0]) + 1)
            self.assertEqual(len(turn_walks(turned_about(drawing))), lot_many(drawing[0]) + 1)

    def test_some(self):
        self.assertEqual(turn_walks(LONE), (((0, 0, 0), (0, 1, 1)),))
        self.assertEqual(len(turn_walks(bundle_drawing(40))), 2)
        self.assertEqual(len(turn_walks(bundle_drawing(13))), 1)
        self.assertEqual([len(turn_walks(wheel_drawing(many))) for many in range(3, 12)], [3, 1, 1] * 3)
        self.assertEqual([len(turn_walks(grid_drawing(2, wide))) for wide in range(1, 7)], [1, 2] * 3)
        self.assertEqual(len(turn_walks(grid_drawing(3, 3))), 3)

    def test_calls(self):
        for drawing in (LONE, RING, grid_drawing(3, 4), bundle_drawing(40)):
            check_call(self, turn_walks, {"drawing": drawing})


class Lots(unittest.TestCase):
    def test_lot_of_walks(self):
        for drawing in some_drawings():
            walks = slow_walks(drawing)
            rows = picks(len(walks)) if len(walks) < 7 else picks(3) + [tuple(range(len(walks)))]
            for some in rows:
                lot = lot_of_walks(drawing, some)
                self.assertEqual(lot, lot_by_hand(drawing, walks, some))
                self.assertIsNone(both_error(drawing[0], lot))
            self.assertEqual(lot_of_walks(drawing, ()), ())
            self.assertEqual(lot_of_walks(drawing, tuple(range(len(walks)))), ())

    def test_each_both_even_lot_comes_of_two_picks(self):
        for drawing in some_drawings():
            walks = slow_walks(drawing)
            if len(walks) > 8:
                continue
            found = {}
            for some in picks(len(walks)):
                found.setdefault(lot_of_walks(drawing, some), []).append(some)
            self.assertEqual(sorted(found), sorted(all_lots(drawing[0])))
            for lot, rows in found.items():
                self.assertEqual([len(rows), sorted(rows[0] + rows[1])], [2, list(range(len(walks)))])
                self.assertEqual(walks_of_lot(drawing, lot), [some for some in rows if 0 not in some][0])

    def test_there_and_back_in_great_drawings(self):
        many = set()
        rng = random.Random(220)
        doubled = ((12, tuple((k, k + 1) for k in range(11) for _ in range(2))),)
        doubled += (((0, 1),) + tuple((2 * k - 2, 2 * k, 2 * k + 1, 2 * k - 1) for k in range(1, 11)) + ((20, 21),),)
        for drawing in some_drawings() + [grown_drawing(rng, 12, 24) for _ in range(20)] + [doubled]:
            bits = lot_many(drawing[0])
            many.add(bits)
            for number in range(0, 2 ** bits, 1 + 2 ** bits // 40):
                lot = lot_at(drawing[0], number)
                some = walks_of_lot(drawing, lot)
                self.assertIs(type(some), tuple)
                self.assertEqual(list(some), sorted(set(some) - {0}))
                self.assertEqual(lot_of_walks(drawing, some), lot)
                check_call(self, walks_of_lot, {"drawing": drawing, "lot": lot})
        self.assertTrue({0, 1, 2, 3, 11} <= many)

    def test_all_lots_of_small_drawings(self):
        for drawing in [one for one in some_drawings() if len(one[0][1]) < 9]:
            good = both_even_lots(drawing[0])
            for lot in all_lots_of(drawing[0]):
                if lot in good:
                    self.assertEqual(lot_of_walks(drawing, walks_of_lot(drawing, lot)), lot)
                else:
                    caught(self, Unfit, walks_of_lot, drawing, lot)

    def test_unfit_in_great_drawings(self):
        rng = random.Random(221)
        found = set()
        for drawing in some_drawings():
            for _ in range(10):
                lot = tuple(tie for tie in range(len(drawing[0][1])) if rng.random() < 0.5)
                fits = both_error(drawing[0], lot) is None
                found.add(fits)
                if fits:
                    self.assertEqual(lot_of_walks(drawing, walks_of_lot(drawing, lot)), lot)
                else:
                    caught(self, Unfit, walks_of_lot, drawing, lot)
        self.assertEqual(found, {True, False})
        caught(self, Unfit, walks_of_lot, drawing=LONE, lot=(0,))

    def test_calls(self):
        for some in picks(3):
            check_call(self, lot_of_walks, {"drawing": grid_drawing(3, 3), "some": some})
        for lot in ((), (0,), (0, 1, 2)):
            check_call(self, walks_of_lot, {"drawing": RING, "lot": lot})


if __name__ == "__main__":
    unittest.main()
