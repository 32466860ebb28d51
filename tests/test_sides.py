"""[A3], [N3] to [N5]: cuts of faces and of turn walks, and side lots."""

import itertools
import random
import unittest

from botheven.errors import TooMany, Unfit
from botheven.evens import all_lots, both_error, lot_many
from botheven.sides import face_lot, is_side, side_colours, side_lots, side_many, walk_lot
from botheven.surfaces import holes
from botheven.turnwalks import lot_of_walks
from tests.oracles import ODD_VALUES, added, all_cuts, all_lots_of, caught, check_call, row
from tests.sketches import bent_tables, doubled_drawing, random_table, slow_faces, slow_walks, small_tables
from tests.sketches import some_drawings, turned_about

PAIR = ((2, ((0, 1), (0, 1))), ((0, 1), (0, 1)))
BENT = ((2, ((0, 1),) * 3), ((0, 1, 2), (0, 1, 2)))
FOUR = ((2, ((0, 1),) * 4), ((0, 1, 2, 3), (0, 1, 2, 3)))


def picks(many):
    """Return all ascending tuples of numbers below many."""
    return [some for count in range(many + 1) for some in itertools.combinations(range(many), count)]


def faces_by_hand(table, found, some):
    """Return the lot of the ties one step of which stands in one of these faces, the other one in none."""
    steps = {step for number in some for step in found[number]}
    return tuple(tie for tie in range(len(table[0][1])) if ((tie, 0) in steps) != ((tie, 1) in steps))


def walks_by_hand(table, found, some):
    """Return the lot of the ties that these walks go along just once in all."""
    gone = [tie for number in some for tie, _, _ in found[number]]
    return tuple(tie for tie in range(len(table[0][1])) if gone.count(tie) == 1)


def all_of(rows, by_hand, table):
    """Return a dict: each cut of some rows, with the numbers without 0 whose cut it is."""
    found = {}
    for some in picks(len(rows)):
        if 0 not in some:
            found.setdefault(by_hand(table, rows, some), []).append(some)
    return found


def few(table):
    """Tell whether a table has so few faces and walks that all picks of them can be tried."""
    return max(len(slow_faces(table)), len(slow_walks(table)), table[0][0]) < 9


def tables():
    found = small_tables() + bent_tables() + some_drawings()[:40] + [doubled_drawing(many) for many in range(2, 7)]
    return [table for table in found if few(table)]


class Cuts(unittest.TestCase):
    def test_held_against_steps_and_walks_counted_one_by_one(self):
        rng = random.Random(350)
        for table in small_tables()[::5] + bent_tables() + some_drawings()[::4]:
            for call, by_hand, rows in ((face_lot, faces_by_hand, slow_faces(table)),
                                        (walk_lot, walks_by_hand, slow_walks(table))):
                many = range(len(rows))
                chosen = [(), tuple(many)] + [(k,) for k in many]
                chosen += [tuple(k for k in many if rng.random() < 0.5) for _ in range(5)]
                for some in chosen:
                    self.assertEqual(call(table, some), by_hand(table, rows, some))
                self.assertEqual((call(table, ()), call(table, tuple(many))), ((), ()))

    def test_walks_that_go_along_a_tie_twice(self):
        lone = ((2, ((0, 1),)), ((0,), (0,)))
        self.assertEqual((walk_lot(lone, (0,)), face_lot(lone, (0,))), ((), ()))
        found = set()
        for table in bent_tables():
            for number, row in enumerate(slow_walks(table)):
                ties = [tie for tie, _, _ in row]
                found.add(len(ties) > len(set(ties)))
                self.assertEqual(walk_lot(table, (number,)), tuple(sorted(tie for tie in ties if ties.count(tie) == 1)))
        self.assertEqual(found, {True, False})

    def test_flat_ones(self):
        for table in some_drawings()[::3]:
            self.assertEqual(walk_lot(table, (0,)), lot_of_walks(table, (0,)))

    def test_calls(self):
        for table in (PAIR, BENT, FOUR):
            for call in (face_lot, walk_lot):
                for some in ((), (0,)):
                    check_call(self, call, {"table": table, "some": some})


class Sides(unittest.TestCase):
    def test_held_against_all_cuts_of_places_and_of_faces(self):
        counts = set()
        for table in tables():
            web = table[0]
            places, faces = all_cuts(web), all_of(slow_faces(table), faces_by_hand, table)
            both = sorted([lot for lot in places if lot in faces], key=lambda lot: row(web, lot))
            self.assertEqual(side_lots(table), tuple(both))
            self.assertEqual(2 ** side_many(table), len(both))
            counts.add(len(both))
            walks = all_of(slow_walks(table), walks_by_hand, table)
            for lot in both:
                self.assertEqual([len(faces[lot]), len(walks[lot])], [1, 1])
                self.assertEqual(side_colours(table, lot), (places[lot], faces[lot][0], walks[lot][0]))
                self.assertIs(is_side(table, lot), True)
            self.check_two_of_three(table, places, faces, walks)
        self.assertTrue({1, 2, 4, 8} <= counts)

    def check_two_of_three(self, table, places, faces, walks):
        """Check that what is two of the three is all three, and that nothing else is a side lot."""
        for lot in {*places, *faces, *walks}:
            many = (lot in places) + (lot in faces) + (lot in walks)
            self.assertIn(many, (1, 3))
            self.assertIs(is_side(table, lot), many == 3)
            if many == 1:
                caught(self, Unfit, side_colours, table, lot)

    def test_all_lots_of_small_tables(self):
        for table in small_tables()[::7]:
            fine = side_lots(table)
            for lot in all_lots_of(table[0]):
                self.assertIs(is_side(table, lot), lot in fine)
                if lot not in fine:
                    caught(self, Unfit, side_colours, table, lot)

    def test_is_side_of_any_value(self):
        for value in ODD_VALUES + ([0, 1], (1, 0), (0, 0), (0, 1, 2), (False, True), (0, True), "01", {0: 1}):
            self.assertIs(is_side(PAIR, value), repr(value) in ("()", "(0, 1)"))
            self.assertIs(is_side(table=BENT, value=value), repr(value) == "()")
        self.assertIs(is_side(FOUR, [0, 1, 2, 3]), False)
        self.assertIs(is_side(FOUR, (0, 1, 2, 3)), True)

    def test_flat_tables(self):
        for table in some_drawings():
            self.assertEqual(side_many(table), lot_many(table[0]))
            if lot_many(table[0]) < 9:
                self.assertEqual(side_lots(table), all_lots(table[0]))

    def test_too_many(self):
        for places, b in ((9, 8), (10, 9), (12, 11)):
            table = doubled_drawing(places)
            self.assertEqual((holes(table), side_many(table)), (0, b))
            whole = tuple(range(2 * places - 2))
            self.assertEqual((is_side(table, whole), is_side(table, (0, 2))), (True, False))
            colours = side_colours(table, whole)
            self.assertEqual(colours[0], tuple(range(1, places, 2)))
            self.assertEqual((face_lot(table, colours[1]), walk_lot(table, colours[2])), (whole, whole))
            if b == 8:
                self.assertEqual(len(side_lots(table)), 256)
            else:
                self.assertEqual(caught(self, TooMany, side_lots, table).limit, 256)

    def test_great_tables(self):
        rng = random.Random(351)
        for table in bent_tables() + [random_table(rng, doubled_drawing(12)[0]) for _ in range(5)]:
            n = side_many(table)
            self.assertLessEqual(n, min(lot_many(table[0]), table[0][0] - 1, len(slow_faces(table)) - 1,
                                        len(slow_walks(table)) - 1))
            if n > 8:
                continue
            lots = side_lots(table)
            self.assertEqual(len(set(lots)), 2 ** n)
            self.assertEqual(list(lots), sorted(lots, key=lambda lot: row(table[0], lot)))
            for lot in lots[:20]:
                self.assertIsNone(both_error(table[0], lot))
                self.assertIn(added(lot, lots[-1]), lots)
                places, faces, walks = side_colours(table, lot)
                self.assertEqual((face_lot(table, faces), walk_lot(table, walks)), (lot, lot))
                for numbers in (places, faces, walks):
                    self.assertEqual(list(numbers), sorted(set(numbers) - {0}))

    def test_contrary_turns(self):
        for table in bent_tables():
            self.assertEqual(side_many(turned_about(table)), side_many(table))
            if side_many(table) < 7:
                self.assertEqual(side_lots(turned_about(table)), side_lots(table))

    def test_calls(self):
        for table in (PAIR, BENT, FOUR):
            for call in (side_lots, side_many):
                check_call(self, call, {"table": table})
            for lot in ((), (0,), (0, 1)):
                check_call(self, side_colours, {"table": table, "lot": lot})
                check_call(self, is_side, {"table": table, "value": lot})


if __name__ == "__main__":
    unittest.main()
