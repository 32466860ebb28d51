"""[A3], [Q1] to [Q3], [Q5]: places named anew, webs that are alike, symmetries."""

import functools
import itertools
import random
import time
import unittest

from botheven.errors import TooMany, Unfit
from botheven.evens import lot_many
from botheven.namings import alike, carried, moved, naming_error, symmetries, tie_moves
from botheven.trees import tree_count
from botheven.webs import web_error
from tests.oracles import ALONE, BOW, CROWDED, DOUBLED, FAT, FULL, KITE, ODD_VALUES, ROW, SQUARE, TAIL, TRIANGLE, TRIO
from tests.oracles import TRIPLE, WIDE, bent_webs, caught, check_call, random_web, some_webs

LONE = (2, ((0, 1),))
CUBE = (8, tuple((one, one + step) for one in range(8) for step in (1, 2, 4) if one & step == 0))
CIRCLE = (8, tuple(tuple(sorted((k, (k + step) % 8))) for k in range(8) for step in (1, 4) if step == 1 or k < 4))


def by_hand(web, names):
    """Return the web with its places named so."""
    return (web[0], tuple((min(names[one], names[other]), max(names[one], names[other])) for one, other in web[1]))


def same(one, other):
    return one[0] == other[0] and sorted(one[1]) == sorted(other[1])


@functools.lru_cache(None)
def all_symmetries(web):
    return tuple(names for names in itertools.permutations(range(web[0])) if same(by_hand(web, names), web))


def random_names(rng, many):
    return tuple(rng.sample(range(many), many))


def shuffled(rng, web):
    """Return the web with places named anew and ties in another order."""
    web = by_hand(web, random_names(rng, web[0]))
    return (web[0], tuple(rng.sample(web[1], len(web[1]))))


def small_webs():
    rng = random.Random(390)
    found = some_webs()[::3] + bent_webs()[::3] + [ALONE, LONE, TRIPLE, FAT, KITE, FULL, SQUARE, TRIANGLE, TAIL, TRIO,
                                                   BOW]
    found += [random_web(rng, 6, 7) for _ in range(5)] + [random_web(rng, 5, 12) for _ in range(5)]
    return [web for web in found if web[0] < 7]


class Naming(unittest.TestCase):
    def test_errors(self):
        for many in range(1, 13):
            self.assertIsNone(naming_error(many, tuple(range(many))))
            self.assertIsNone(naming_error(many, tuple(range(many))[::-1]))
            self.assertEqual(naming_error(many, tuple(range(many + 1))), "form")
            self.assertEqual(naming_error(many, tuple(range(many - 1))), "form")
            self.assertEqual(naming_error(many, list(range(many))), "form")
            for k in range(many):
                for item in (many, -1, True, None, "0", (0,), [0], 10 ** 399, {}):
                    value = tuple(range(k)) + (item,) + tuple(range(k + 1, many))
                    self.assertEqual(naming_error(many, value), ("item", k))
                    self.assertEqual(naming_error(many, value[:k + 1] + ([],) * (many - k - 1)), ("item", k))
                for ahead in range(k):
                    value = tuple(range(k)) + (ahead,) + tuple(range(k + 1, many))
                    self.assertEqual(naming_error(many, value), ("item", k))

    def test_any_value(self):
        for many in (1, 2, 3, 6, 12):
            for value in ODD_VALUES:
                fits = repr(value) in ("(0,)", "(0, 1)", "(1, 0)", "(0, 1, 2, 3, 4, 5)") and len(value) == many
                error = naming_error(many, value)
                self.assertIs(error is None, fits)
                if type(value) is not tuple or len(value) != many:
                    self.assertEqual(error, "form")
        self.assertEqual(naming_error(many=1, value=(False,)), ("item", 0))
        self.assertEqual(naming_error(2, (0, True)), ("item", 1))
        self.assertEqual(naming_error(2, (0, 0)), ("item", 1))

    def test_held_against_all_tuples(self):
        for value in itertools.product(range(-1, 4), repeat=3):
            bad = [k for k in range(3) if not 0 <= value[k] < 3 or value[k] in value[:k]]
            self.assertEqual(naming_error(3, value), ("item", bad[0]) if bad else None)

    def test_calls(self):
        for value in ((0, 1, 2), (0, 1, 1), [0], None, (0, True, 2)):
            check_call(self, naming_error, {"many": 3, "value": value})


class Carried(unittest.TestCase):
    def test_tie_by_tie(self):
        rng = random.Random(391)
        for web in small_webs() + [ROW, CROWDED, WIDE, DOUBLED, CUBE]:
            for _ in range(5):
                names = random_names(rng, web[0])
                found = carried(web, names)
                self.assertEqual(found, by_hand(web, names))
                self.assertIsNone(web_error(found))
            self.assertEqual(carried(web=web, names=tuple(range(web[0]))), web)

    def test_calls(self):
        check_call(self, carried, {"web": KITE, "names": (3, 1, 0, 2)})


class Alike(unittest.TestCase):
    def test_held_against_all_namings(self):
        webs = [web for web in small_webs() if web[0] < 5]
        found = set()
        for web in webs:
            for other in webs[::3]:
                names = [one for one in itertools.permutations(range(web[0])) if same(by_hand(web, one), other)]
                told = alike(web, other)
                found.add(told is None)
                if names:
                    self.assertIn(told, names)
                else:
                    self.assertIsNone(told)
        self.assertEqual(found, {True, False})

    def test_shuffled_webs_are_alike(self):
        rng = random.Random(392)
        for web in small_webs() + [CUBE, CIRCLE] + [random_web(rng, 8, many) for many in (7, 10, 16, 28, 40)]:
            other = shuffled(rng, web)
            names = alike(web, other)
            self.assertIsNone(naming_error(web[0], names))
            self.assertTrue(same(carried(web, names), other))
            self.assertEqual((lot_many(web), tree_count(web)), (lot_many(other), tree_count(other)))

    def test_as_many_places_and_ties_but_unlike(self):
        two_threes = (6, ((0, 1), (0, 2), (1, 2), (3, 4), (3, 5), (4, 5), (0, 3), (1, 4), (2, 5)))
        sides = (6, tuple(itertools.product(range(3), range(3, 6))))
        self.assertIsNone(alike(two_threes, sides))
        self.assertIsNone(alike(CUBE, CIRCLE))
        self.assertIsNone(alike((3, ((0, 1), (0, 1), (1, 2), (1, 2))), (3, ((0, 1), (0, 1), (0, 1), (1, 2)))))
        self.assertIsNone(alike(KITE, (4, SQUARE[1] + ((0, 1),))))
        self.assertIsNone(alike(LONE, ALONE))
        self.assertIsNone(alike(LONE, FAT))
        self.assertIsNone(alike(ALONE, ROW))

    def test_too_many_places(self):
        for web in (ROW, DOUBLED, (9, ROW[1][:8]), CROWDED):
            for other in (web, ALONE, KITE):
                self.assertEqual(caught(self, TooMany, alike, web, other).limit, 8)
        for other in (ROW, (9, ROW[1][:8]), CROWDED):
            for web in (CUBE, ALONE, KITE):
                self.assertIsNone(alike(web, other))
        eight = (8, ROW[1][:7])
        self.assertIn(alike(eight, eight), (tuple(range(8)), tuple(range(8))[::-1]))

    def test_told_soon_at_eight_places(self):
        rng = random.Random(393)
        regular = [CUBE, CIRCLE, (8, tuple(itertools.combinations(range(8), 2))),
                   (8, tuple(itertools.product(range(4), range(4, 8))))]
        regular += [(8, tuple(tuple(sorted((k, (k + step) % 8))) for k in range(8) for step in (1, 2))),
                    (8, tuple(tuple(sorted((k, (k + step) % 8))) for k in range(8) for step in (1, 3)))]
        webs = regular + [shuffled(rng, web) for web in regular] + [(8, tuple((0, k) for k in range(1, 8)))]
        begun = time.monotonic()
        for web in webs:
            for other in webs:
                names = alike(web, other)
                self.assertTrue(names is None or same(carried(web, names), other))
            self.assertIsNotNone(alike(web, web))
        self.assertLess(time.monotonic() - begun, 20)

    def test_calls(self):
        for web, other in ((KITE, KITE), (KITE, SQUARE), (ROW, KITE), (FULL, FULL)):
            check_call(self, alike, {"web": web, "other": other})


class Symmetries(unittest.TestCase):
    def test_held_against_all_namings(self):
        counts = set()
        for web in small_webs():
            found = symmetries(web)
            self.assertEqual(found, all_symmetries(web))
            self.assertEqual(list(found), sorted(found))
            counts.add(len(found))
        self.assertTrue({1, 2, 4, 6, 8, 24} <= counts)

    def test_some(self):
        self.assertEqual(len(symmetries(CUBE)), 48)
        self.assertEqual(len(symmetries((6, tuple(itertools.combinations(range(6), 2))))), 720)
        self.assertEqual(symmetries((8, ROW[1][:7])), (tuple(range(8)), tuple(range(8))[::-1]))
        self.assertEqual(len(symmetries((8, tuple(itertools.product(range(3), range(3, 8)))))), 720)
        self.assertEqual(len(symmetries((8, ROW[1][:7] + ((0, 7),)))), 16)

    def test_too_many(self):
        self.assertEqual(caught(self, TooMany, symmetries, ROW).limit, 8)
        self.assertEqual(caught(self, TooMany, symmetries, (9, tuple((0, k) for k in range(1, 9)))).limit, 8)
        many = ((7, tuple(itertools.combinations(range(7), 2))), (8, tuple(itertools.combinations(range(8), 2))),
                (8, tuple((0, k) for k in range(1, 8))), (8, tuple(itertools.product(range(4), range(4, 8)))),
                (8, tuple(itertools.product(range(2), range(2, 8)))))
        for web in many:
            self.assertEqual(caught(self, TooMany, symmetries, web).limit, 1000)
        # Four pairs of twins that hang together: 384; K4,4 has 1152.
        pairs = (8, tuple(pair for pair in itertools.combinations(range(8), 2) if pair[1] - pair[0] != 4))
        self.assertEqual(len(symmetries(pairs)), 384)

    def test_calls(self):
        for web in (KITE, ALONE, TRIPLE, ROW, (7, tuple(itertools.combinations(range(7), 2)))):
            check_call(self, symmetries, {"web": web})


def moves_by_hand(web, names):
    """Return the tie that each tie becomes: as many ahead of it between its ends, so many ahead of that one."""
    goals = by_hand(web, names)[1]
    found = []
    for tie, ends in enumerate(web[1]):
        there = [other for other in range(len(web[1])) if web[1][other] == goals[tie]]
        found.append(there[web[1][:tie].count(ends)])
    return tuple(found)


class Moves(unittest.TestCase):
    def test_of_each_symmetry(self):
        rng = random.Random(394)
        for web in small_webs() + [(3, ((0, 1), (1, 2), (0, 1), (1, 2))), (2, ((0, 1),) * 5), CUBE]:
            for names in symmetries(web):
                moves = tie_moves(web, names)
                self.assertEqual(moves, moves_by_hand(web, names))
                self.assertEqual(sorted(moves), list(range(len(web[1]))))
                standing = tuple(rng.randint(-10 ** 12, 10 ** 12) for _ in web[1])
                there = moved(web, names, standing)
                self.assertEqual([there[goal] for goal in moves], list(standing))
                back = tuple(names.index(place) for place in range(web[0]))
                self.assertEqual(moved(web, back, there), standing)
                self.assertEqual([tie_moves(web, back)[goal] for goal in moves], list(range(len(web[1]))))

    def test_ties_between_the_same_places(self):
        web = (3, ((0, 1), (1, 2), (0, 1), (1, 2), (0, 1), (1, 2)))
        self.assertEqual(tie_moves(web, (2, 1, 0)), (1, 0, 3, 2, 5, 4))
        self.assertEqual(moved(web, (2, 1, 0), (1, 2, 3, 4, 5, 6)), (2, 1, 4, 3, 6, 5))
        self.assertEqual(tie_moves(TRIPLE, (1, 0)), (0, 1, 2))

    def test_unfit(self):
        for web in (KITE, SQUARE, LONE, ALONE, TRIO, ROW, CROWDED, DOUBLED):
            many = web[0]
            values = ODD_VALUES + (list(range(many)), tuple(range(many + 1)), (0,) * many, tuple(range(1, many + 1)),
                                   (True,) * many)
            for value in values:
                if naming_error(many, value) is None:
                    continue
                caught(self, Unfit, tie_moves, web, value)
                caught(self, Unfit, moved, web, value, (0,) * len(web[1]))
        for names in itertools.permutations(range(4)):
            if names not in symmetries(KITE):
                caught(self, Unfit, tie_moves, KITE, names)
                caught(self, Unfit, moved, web=KITE, names=names, standing=(1, 2, 3, 4, 5))

    def test_webs_of_12_places(self):
        back = tuple(range(12))[::-1]
        self.assertEqual(tie_moves(ROW, back), tuple(range(11))[::-1])
        self.assertEqual(moved(ROW, back, tuple(range(11))), tuple(range(11))[::-1])
        self.assertEqual(tie_moves(DOUBLED, back), tuple(range(11))[::-1] + tuple(range(21, 10, -1)))
        caught(self, Unfit, tie_moves, ROW, (1, 0) + tuple(range(2, 12)))
        caught(self, Unfit, moved, WIDE, back[1:] + (11,), (0,) * 40)
        full = (9, tuple(itertools.combinations(range(9), 2)))
        names = (8, 0, 1, 2, 3, 4, 5, 6, 7)
        self.assertEqual(tie_moves(full, names), moves_by_hand(full, names))

    def test_calls(self):
        for names in ((2, 1, 0, 3), (1, 0, 2, 3), [0, 1, 2, 3], None):
            check_call(self, tie_moves, {"web": KITE, "names": names})
            check_call(self, moved, {"web": KITE, "names": names, "standing": (5, 6, 7, 8, 9)})


class What_holds(unittest.TestCase):
    def test_one_behind_another(self):
        for web in small_webs()[::2] + [CUBE]:
            found = symmetries(web)
            for one in found[::1 + len(found) // 6]:
                for other in found[::1 + len(found) // 6]:
                    self.assertIn(tuple(other[name] for name in one), found)
                self.assertIn(tuple(one.index(place) for place in range(web[0])), found)


if __name__ == "__main__":
    unittest.main()
