"""[A3], [I1] to [I3]: drawings, their faces and the drawings that have these as places."""

import itertools
import random
import unittest

from botheven.drawings import drawing_error
from botheven.errors import Unfit
from botheven.evens import all_lots, lot_many
from botheven.faces import dual, dual_places, faces
from botheven.turnwalks import turn_walks
from botheven.webs import web_error
from tests.oracles import ALONE, KITE, ODD_VALUES, caught, check_call, stars_of
from tests.sketches import behind, bundle_drawing, follows, grid_drawing, grown_drawing, slow_faces, some_drawings
from tests.sketches import wheel_drawing

PAIR = ((2, ((0, 1), (0, 1))), ((0, 1), (0, 1)))
RING = ((3, ((0, 1), (0, 2), (1, 2))), ((0, 1), (0, 2), (1, 2)))
LONE = ((2, ((0, 1),)), ((0,), (0,)))


def has_dual(drawing):
    """Tell whether there are few enough faces, and no tie has one face on both sides."""
    found = slow_faces(drawing)
    return len(found) <= 12 and not any((tie, 1 - side) in row for row in found for tie, side in row)


def ties_of(row):
    """Return the ties that a walk goes along, ascending, each as often as it does."""
    return tuple(sorted(tie for tie, _, _ in row))


def begun_alike(row):
    """Return the tuple begun with its least item."""
    k = row.index(min(row))
    return row[k:] + row[:k]


class Error(unittest.TestCase):
    def test_flat_drawings(self):
        for drawing in some_drawings():
            self.assertIsNone(drawing_error(drawing))
        for drawing in (PAIR, RING, LONE, grid_drawing(3, 4), wheel_drawing(11), bundle_drawing(40)):
            check_call(self, drawing_error, {"value": drawing})

    def test_all_turns_of_small_webs(self):
        words = set()
        for web in (KITE, (2, ((0, 1),) * 3), (2, ((0, 1),) * 4), (4, tuple(itertools.combinations(range(4), 2)))):
            for turns in itertools.product(*[list(itertools.permutations(lot)) for lot in stars_of(web)]):
                drawing = (web, turns)
                flat = len(slow_faces(drawing)) == len(web[1]) - web[0] + 2
                self.assertEqual(drawing_error(drawing), None if flat else "flat")
                words.add(drawing_error(drawing))
        self.assertEqual(words, {None, "flat"})

    def test_webs_that_cannot_be_drawn_flat(self):
        rng = random.Random(210)
        five = (5, tuple(itertools.combinations(range(5), 2)))
        sides = (6, tuple(itertools.product(range(3), range(3, 6))))
        for web in (five, sides):
            for _ in range(200):
                turns = tuple(tuple(rng.sample(lot, len(lot))) for lot in stars_of(web))
                self.assertEqual(drawing_error((web, turns)), "flat")

    def test_trees_are_flat_with_any_turns(self):
        rng = random.Random(211)
        web = (12, tuple((rng.randrange(k), k) for k in range(1, 12)))
        for _ in range(20):
            self.assertIsNone(drawing_error((web, tuple(tuple(rng.sample(lot, len(lot))) for lot in stars_of(web)))))

    def test_any_value(self):
        for value in ODD_VALUES:
            told = ("web", web_error(value[0])) if type(value) is tuple and len(value) == 2 else "form"
            self.assertEqual(drawing_error(value), told)
            check_call(self, drawing_error, {"value": value})
            if web_error(value) is not None:
                self.assertEqual(drawing_error((value, RING[1])), ("web", web_error(value)))
            three = type(value) is tuple and len(value) == 3
            self.assertEqual(drawing_error((RING[0], value)), ("turns", 0) if three else "form")
            for place in range(3):
                turns = RING[1][:place] + (value,) + RING[1][place + 1:]
                right = place == 0 and repr(value) in ("(0, 1)", "(1, 0)")
                self.assertEqual(drawing_error((RING[0], turns)), None if right else ("turns", place))

    def test_in_this_order(self):
        web, turns = RING
        self.assertEqual(drawing_error([web, turns]), "form")
        self.assertEqual(drawing_error((web, turns, ())), "form")
        self.assertEqual(drawing_error((web,)), "form")
        self.assertEqual(drawing_error((list(web), turns)), ("web", "form"))
        self.assertEqual(drawing_error(((3, ((0, 1), (2, 1))), None)), ("web", ("tie", 1)))
        self.assertEqual(drawing_error(((3, ((0, 1), (0, 1))), None)), ("web", "apart"))
        self.assertEqual(drawing_error((ALONE, ((),))), "form")
        self.assertEqual(drawing_error((ALONE, None)), "form")
        self.assertEqual(drawing_error((web, list(turns))), "form")
        self.assertEqual(drawing_error((web, turns[:2])), "form")
        self.assertEqual(drawing_error((web, turns + ((),))), "form")
        self.assertEqual(drawing_error((web, ([0, 1], (9,), None))), ("turns", 0))

    def test_wrong_turns(self):
        web, turns = RING
        for place, good in enumerate(turns):
            one, other = good
            wrong = [
                (one,), (one, one), (one, other, other), (one, 3 - one - other), (), list(good), None,
                (one, str(other)), (one, None), (one, other, None), (one, other + 3), (one, -1), (one, [other]),
                ((one,), (other,)),
                tuple(bool(tie) if tie < 2 else tie for tie in good), "01", {one: other}, (one, 10 ** 399),
            ]
            for row in wrong:
                self.assertEqual(drawing_error((web, turns[:place] + (row,) + turns[place + 1:])), ("turns", place))
                # The first place is told, whatever stands behind it.
                behind_it = (None,) * (2 - place)
                self.assertEqual(drawing_error((web, turns[:place] + (row,) + behind_it)), ("turns", place))
            self.assertIsNone(drawing_error((web, turns[:place] + ((other, one),) + turns[place + 1:])))

    def test_turns_ahead_of_flat(self):
        web = (2, ((0, 1),) * 3)
        self.assertEqual(drawing_error((web, ((0, 1, 2), (0, 1, 2)))), "flat")
        self.assertEqual(drawing_error((web, ((0, 1, 2), (0, 1, 1)))), ("turns", 1))
        self.assertEqual(drawing_error((web, ((0, True, 2), (0, 1, 2)))), ("turns", 0))


class Faces(unittest.TestCase):
    def test_held_against_steps_followed_one_by_one(self):
        for drawing in some_drawings():
            found = faces(drawing)
            self.assertEqual(found, slow_faces(drawing))
            self.assertEqual(len(found), len(drawing[0][1]) - drawing[0][0] + 2)
            steps = [step for row in found for step in row]
            self.assertEqual(sorted(steps), [(tie, side) for tie in range(len(drawing[0][1])) for side in (0, 1)])
            for row in found:
                self.assertEqual(row[0], min(row))
                for one, other in zip(row, row[1:] + row[:1]):
                    self.assertEqual(follows(drawing, one), other)
            self.assertIs(type(found), tuple)
            self.assertEqual({type(row) for row in found}, {tuple})

    def test_some(self):
        self.assertEqual(faces(LONE), (((0, 0), (0, 1)),))
        row = grid_drawing(1, 12)
        self.assertEqual(len(faces(row)), 1)
        self.assertEqual(len(faces(row)[0]), 22)
        self.assertEqual(sorted(len(face) for face in faces(grid_drawing(3, 4))), [4] * 6 + [10])
        self.assertEqual(sorted(len(face) for face in faces(wheel_drawing(7))), [3] * 7 + [7])

    def test_calls(self):
        for drawing in (LONE, PAIR, RING, grid_drawing(2, 3), bundle_drawing(13), wheel_drawing(11)):
            for call in (faces, dual, dual_places):
                check_call(self, call, {"drawing": drawing})


class Dual(unittest.TestCase):
    def test_dual_as_told(self):
        for drawing in some_drawings():
            found = slow_faces(drawing)
            if not has_dual(drawing):
                caught(self, Unfit, dual, drawing)
                caught(self, Unfit, dual_places, drawing)
                continue
            number = {step: k for k, row in enumerate(found) for step in row}
            web, turns = dual(drawing)
            self.assertEqual(web[0], len(found))
            told = tuple(tuple(sorted((number[tie, 0], number[tie, 1]))) for tie in range(len(drawing[0][1])))
            self.assertEqual(web[1], told)
            self.assertEqual(turns, tuple(tuple(tie for tie, _ in row) for row in found))
            self.assertIsNone(drawing_error((web, turns)))
            self.check_places(drawing, number)

    def check_places(self, drawing, number):
        """Check that the face told for each place leads, tie by tie, from the step away to the step to it."""
        web, turned = drawing[0], dual(drawing)
        found, rows = dual_places(drawing), faces(turned)
        self.assertEqual(sorted(found), list(range(web[0])))
        for place, k in enumerate(found):
            self.assertEqual(sorted(tie for tie, _ in rows[k]), list(stars_of(web)[place]))
            for tie, side in rows[k]:
                away = 0 if web[1][tie][0] == place else 1
                ends = turned[0][1][tie]
                self.assertEqual(ends[side], number[tie, away])
                self.assertEqual(ends[1 - side], number[tie, 1 - away])

    def test_unfit(self):
        rng = random.Random(212)
        reasons = set()
        for drawing in some_drawings() + [grown_drawing(rng, 12, count) for count in (22, 23) for _ in range(20)]:
            many, fit = len(slow_faces(drawing)), has_dual(drawing)
            reasons.add((many > 12, fit))
            if not fit:
                caught(self, Unfit, dual, drawing)
                caught(self, Unfit, dual_places, drawing)
        self.assertEqual(reasons, {(True, False), (False, False), (False, True)})
        self.assertEqual(dual(bundle_drawing(12))[0][0], 12)
        caught(self, Unfit, dual, bundle_drawing(13))
        caught(self, Unfit, dual_places, drawing=bundle_drawing(13))
        caught(self, Unfit, dual, LONE)
        caught(self, Unfit, dual_places, LONE)

    def test_dual_of_dual(self):
        for drawing in [one for one in some_drawings() if has_dual(one)]:
            (many, ties), turns = dual(dual(drawing))
            web = drawing[0]
            called = {k: place for place, k in enumerate(dual_places(drawing))}
            self.assertEqual(many, web[0])
            self.assertEqual(tuple(tuple(sorted((called[one], called[other]))) for one, other in ties), web[1])
            for k, row in enumerate(turns):
                self.assertEqual(begun_alike(row), begun_alike(drawing[1][called[k]]))

    def test_lots_are_those_of_the_drawing(self):
        for drawing in [one for one in some_drawings() if has_dual(one)]:
            turned = dual(drawing)
            self.assertEqual(lot_many(turned[0]), lot_many(drawing[0]))
            self.assertEqual(all_lots(turned[0]), all_lots(drawing[0]))
            there, here = [sorted(ties_of(row) for row in turn_walks(one)) for one in (turned, drawing)]
            self.assertEqual(there, here)

    def test_some(self):
        self.assertEqual(dual(PAIR), PAIR)
        self.assertEqual(dual(bundle_drawing(3))[0], (3, ((0, 1), (1, 2), (0, 2))))
        wheel = wheel_drawing(5)
        self.assertEqual(sorted(len(row) for row in dual(wheel)[1]), [3] * 5 + [5])
        self.assertEqual(behind(wheel, 0, 4), 0)


if __name__ == "__main__":
    unittest.main()
