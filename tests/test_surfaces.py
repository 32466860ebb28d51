"""[A3], [N1], [N2], [N5]: faces and turn walks round any order of ties, and holes."""

import itertools
import random
import unittest

from botheven.drawings import drawing_error
from botheven.faces import faces
from botheven.surfaces import all_faces, all_walks, holes
from botheven.turnwalks import turn_walks
from tests.oracles import check_call
from tests.sketches import bent_tables, some_drawings, slow_faces, slow_walks, small_tables, turned_about

PAIR = ((2, ((0, 1), (0, 1))), ((0, 1), (0, 1)))
LONE = ((2, ((0, 1),)), ((0,), (0,)))


def exchanged(table, place, k):
    """Return the table with two neighbours in the turn of a place exchanged."""
    web, turns = table
    row = list(turns[place])
    row[k - 1], row[k] = row[k], row[k - 1]
    return (web, turns[:place] + (tuple(row),) + turns[place + 1:])


class Rows(unittest.TestCase):
    def test_held_against_steps_followed_one_by_one(self):
        for table in small_tables() + bent_tables():
            self.assertEqual(all_faces(table), slow_faces(table))
            self.assertEqual(all_walks(table), slow_walks(table))

    def test_flat_ones(self):
        for table in some_drawings():
            self.assertEqual(all_faces(table), faces(table))
            self.assertEqual(all_walks(table), turn_walks(table))
            self.assertEqual(repr(all_walks(table)), repr(turn_walks(table)))

    def test_each_step_and_each_turn_once(self):
        for table in bent_tables():
            ties = range(len(table[0][1]))
            self.assertEqual(sorted(step for row in all_faces(table) for step in row),
                             [(k, side) for k in ties for side in (0, 1)])
            gone = sorted((tie, turn) for row in all_walks(table) for tie, _, turn in row)
            self.assertEqual(gone, [(k, turn) for k in ties for turn in (0, 1)])

    def test_tables_of_one_web(self):
        web = (2, ((0, 1),) * 4)
        counts = set()
        for turn in itertools.permutations(range(4)):
            table = (web, ((0, 1, 2, 3), turn))
            self.assertEqual((all_faces(table), all_walks(table)), (slow_faces(table), slow_walks(table)))
            counts.add((holes(table), len(all_faces(table)), len(all_walks(table))))
        self.assertEqual({rows[:2] for rows in counts}, {(0, 4), (1, 2)})

    def test_calls(self):
        for table in (LONE, PAIR) + tuple(bent_tables()[:6]):
            for call in (all_faces, all_walks, holes):
                check_call(self, call, {"table": table})


class Holes(unittest.TestCase):
    def test_as_told(self):
        found = set()
        for table in small_tables() + bent_tables():
            web = table[0]
            twice = 2 - web[0] + len(web[1]) - len(slow_faces(table))
            self.assertEqual(holes(table) * 2, twice)
            self.assertGreaterEqual(holes(table), 0)
            self.assertEqual(drawing_error(table), None if holes(table) == 0 else "flat")
            found.add(holes(table))
        self.assertTrue({0, 1, 2, 3, 4} <= found)

    def test_flat_ones_have_none(self):
        for table in some_drawings():
            self.assertEqual(holes(table), 0)

    def test_some(self):
        self.assertEqual((holes(LONE), holes(PAIR)), (0, 0))
        for many in range(1, 41):
            alike = ((2, ((0, 1),) * many), (tuple(range(many)), tuple(range(many))))
            self.assertEqual(holes(alike), (many - 1) // 2)
            self.assertEqual(len(all_faces(alike)), 2 - many % 2)

    def test_an_exchange_of_two_neighbours_changes_them_by_at_most_1(self):
        rng = random.Random(340)
        changes = set()
        for table in bent_tables() + some_drawings()[::3]:
            for _ in range(6):
                place = rng.randrange(table[0][0])
                k = rng.randrange(len(table[1][place]))
                changes.add(holes(exchanged(table, place, k)) - holes(table))
        self.assertEqual(changes, {-1, 0, 1})

    def test_contrary_turns(self):
        for table in bent_tables():
            self.assertEqual(holes(turned_about(table)), holes(table))
            self.assertEqual(len(all_faces(turned_about(table))), len(all_faces(table)))


if __name__ == "__main__":
    unittest.main()
