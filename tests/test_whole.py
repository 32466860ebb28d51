"""[A2] (a) to (g): what holds of all parts together, in small webs."""

import itertools
import random
import unittest

from botheven.benches import Bench
from botheven.classes import class_count, class_number
from botheven.deeds import done, lifted, never_below
from botheven.drawings import drawing_error
from botheven.errors import BothError
from botheven.evens import all_lots, lot_many
from botheven.factors import evens_among, heap_factors
from botheven.joining import joined_above, joined_by
from botheven.marks import led_by
from botheven.slopes import slope_base
from botheven.sorts import sort_of, sort_paper_holds
from botheven.thick import thin_cut
from botheven.trees import tree_count
from botheven.turnwalks import turn_walks
from tests.oracles import all_cuts, all_lots_of, all_rounds_of, bent_webs, both_even_lots, dot, even_lots, in_lattice
from tests.oracles import lattice, less_by, random_standing, row, some_webs, stars_of, thick_webs
from tests.sketches import some_drawings
from tests.slowbench import some_edit


def small_webs():
    return [web for web in some_webs() + bent_webs() if len(web[1]) < 9]


def moves_of(web):
    return lattice([row(web, lot) for lot in stars_of(web) + all_rounds_of(web)])


def even_on_all(web, off):
    """Tell whether a difference has an even sum on each both-even lot."""
    return all(sum(off[tie] for tie in lot) % 2 == 0 for lot in both_even_lots(web))


def leads(call, *args):
    """Tell whether a call leads the one standing to the other."""
    web, one, other = args
    try:
        deeds = call(web, one, other)
    except BothError:
        return False
    assert done(web, one, deeds) == other
    return True


class Whole(unittest.TestCase):
    def test_a_joined_in_thick_webs(self):
        rng = random.Random(260)
        found = set()
        for web in [web for web in thick_webs() + some_webs() if thin_cut(web) is None and len(web[1]) < 9]:
            moves = moves_of(web)
            for _ in range(10):
                one, other = random_standing(rng, web, -3, 3), random_standing(rng, web, -3, 3)
                joined = in_lattice(moves, less_by(one, other))
                found.add(joined)
                self.assertEqual(joined, even_on_all(web, less_by(one, other)))
                self.assertEqual(joined, leads(joined_by, web, one, other))
                self.assertEqual(joined, class_number(web, one) == class_number(web, other))
        self.assertEqual(found, {True, False})

    def test_b_joined_in_any_web(self):
        rng = random.Random(261)
        found = set()
        for web in small_webs():
            moves = moves_of(web)
            for far in (1, 2, 9):
                one, other = random_standing(rng, web, -far, far), random_standing(rng, web, -far, far)
                off = less_by(one, other)
                joined = in_lattice(moves, off)
                level = not any(dot(slope, off) for slope in slope_base(web))
                found.add((level, joined))
                self.assertEqual(joined, level and even_on_all(web, off))
                self.assertEqual(joined, leads(led_by, web, one, other))
        self.assertEqual(found, {(True, True), (True, False), (False, False)})

    def test_c_even_factors(self):
        for web in small_webs() + thick_webs()[:9]:
            b = evens_among(web)
            self.assertEqual(b, len([factor for factor in heap_factors(web) if factor % 2 == 0]))
            self.assertEqual((lot_many(web), len(all_lots(web))), (b, 2 ** b))
            if len(web[1]) < 9:
                self.assertEqual(len(both_even_lots(web)), 2 ** b)
            if thin_cut(web) is None:
                self.assertEqual(class_count(web) == 1, tree_count(web) % 2 == 1)

    def test_d_walks_by_turns(self):
        for drawing in some_drawings():
            self.assertIsNone(drawing_error(drawing))
            self.assertEqual(len(turn_walks(drawing)), evens_among(drawing[0]) + 1)

    def test_e_each_tie_is_of_one_sort(self):
        for web in [web for web in small_webs() if len(web[1]) < 7]:
            cuts, evens = set(all_cuts(web)), set(even_lots(web))
            for tie in range(len(web[1])):
                words = set()
                for lot in [lot for lot in all_lots_of(web) if tie in lot]:
                    rest = tuple(other for other in lot if other != tie)
                    words |= {"both"} if lot in cuts and lot in evens else set()
                    words |= {"cut"} if lot in cuts and rest in evens else set()
                    words |= {"round"} if lot in evens and rest in cuts else set()
                    for word in ("both", "cut", "round"):
                        self.assertEqual(word in words or not sort_paper_holds(web, tie, (word, lot)), True)
                self.assertEqual(words, {sort_of(web, tie)})

    def test_f_never_below_nought(self):
        rng = random.Random(262)
        many = 0
        for web in small_webs() + thick_webs():
            one, other = random_standing(rng, web, 0, 3), random_standing(rng, web, 0, 3)
            for goal in (other, tuple(number + 2 * (tie == 0) for tie, number in enumerate(one))):
                if thin_cut(web) is None and leads(joined_by, web, one, goal):
                    deeds = joined_above(web, one, goal)
                    self.assertEqual((done(web, one, deeds), never_below(web, one, deeds)), (goal, True))
                if leads(led_by, web, one, goal):
                    many += 1
                    deeds = lifted(web, one, led_by(web, one, goal))
                    self.assertEqual((done(web, one, deeds), never_below(web, one, deeds)), (goal, True))
        self.assertGreater(many, 100)

    def test_g_edits_that_are_taken_back(self):
        rng = random.Random(263)
        for _ in range(30):
            bench, seen = Bench(), [((), 0, ())]
            for _ in range(40):
                edit = some_edit(rng, {name: bench[name] for name in bench})
                try:
                    getattr(bench, edit[0])(*edit[1:])
                    seen.append((bench.shelf, bench.version, bench.log))
                except BothError:
                    pass
                self.assertEqual((bench.shelf, bench.version, bench.log), seen[-1])
            for there in seen[-2::-1]:
                bench.undo()
                self.assertEqual((bench.shelf, bench.version, bench.log), there)

    def test_all_standings_of_thick_webs_with_odd_trees_are_joined(self):
        for web in ((2, ((0, 1),) * 3), (2, ((0, 1),) * 5)):
            self.assertEqual(tree_count(web) % 2, 1)
            for other in itertools.product((0, 1, -1), repeat=len(web[1])):
                self.assertTrue(leads(joined_by, web, (0,) * len(web[1]), other))


if __name__ == "__main__":
    unittest.main()
