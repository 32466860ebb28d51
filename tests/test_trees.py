"""[A3], [G1], [G2]: trees of a web, counted and told."""

import itertools
import random
import unittest

from botheven.errors import TooMany
from botheven.trees import is_tree, tree_count, trees
from botheven.webs import matrix_of
from tests.oracles import ALONE, CROWDED, DOUBLED, FULL, KITE, ODD_VALUES, ROW, SQUARE, TRIANGLE, WIDE
from tests.oracles import all_lots_of, bent_webs, caught, check_call, joined, large_webs, random_web, row, some_webs

# Found by a search: 501 trees, counted one by one below.
JUST_MORE = (6, ((0, 2), (0, 5), (3, 5), (1, 2), (2, 4), (2, 5), (0, 1), (0, 5), (0, 4), (2, 4), (1, 2), (0, 5),
                 (0, 3), (3, 4)))


def joins_all(web, lot):
    return joined((web[0], tuple(web[1][tie] for tie in lot)))


def trees_of(web):
    """Return all trees, in order, one by one."""
    lots = itertools.combinations(range(len(web[1])), web[0] - 1)
    return sorted([lot for lot in lots if joins_all(web, lot)], key=lambda lot: row(web, lot))


def determinant(rows):
    """Return the determinant, developed along the first row."""
    if not rows:
        return 1
    parts = [[line[:k] + line[k + 1:] for line in rows[1:]] for k in range(len(rows))]
    return sum((-1) ** k * item * determinant(parts[k]) for k, item in enumerate(rows[0]) if item)


class Count(unittest.TestCase):
    def test_held_against_trees_one_by_one(self):
        for web in some_webs() + bent_webs():
            told = trees_of(web)
            self.assertEqual(tree_count(web), len(told))
            self.assertEqual(trees(web), tuple(told))

    def test_known_numbers(self):
        for many in range(2, 10):
            full = (many, tuple(itertools.combinations(range(many), 2)))
            self.assertEqual(tree_count(full), many ** (many - 2))
        for one, other in ((2, 3), (3, 3), (4, 5), (5, 7), (4, 8)):
            sides = (one + other, tuple(itertools.product(range(one), range(one, one + other))))
            self.assertEqual(tree_count(sides), one ** (other - 1) * other ** (one - 1))
        self.assertEqual([tree_count(web) for web in (ALONE, ROW, DOUBLED, SQUARE)], [1, 1, 2 ** 11, 4])
        self.assertEqual(tree_count(WIDE), 1 + 11 * 29)
        self.assertEqual(tree_count((12, ROW[1] * 3 + ROW[1][:7])), 4 ** 7 * 3 ** 4)
        self.assertEqual(tree_count((2, ((0, 1),) * 40)), 40)

    def test_12_places_and_40_ties(self):
        rng = random.Random(90)
        for web in [CROWDED] + [random_web(rng, 12, 40) for _ in range(4)]:
            # A web with a tie has the trees of the web without it, and those of the web in which its ends are one.
            self.assertGreater(tree_count(web), 10 ** 6)
            for tie in (0, 13, 39):
                one, other = web[1][tie]
                left = (12, web[1][:tie] + web[1][tie + 1:])
                names = [one if place == other else place - (place > other) for place in range(12)]
                ends = [tuple(sorted((names[a], names[b]))) for a, b in left[1]]
                made_one = (11, tuple(pair for pair in ends if pair[0] != pair[1]))
                without = tree_count(left) if joined(left) else 0
                self.assertEqual(tree_count(web), without + tree_count(made_one))

    def test_determinant_of_the_core(self):
        for web in some_webs() + bent_webs():
            core = [line[1:] for line in matrix_of(web)[1:]]
            self.assertEqual(tree_count(web), determinant(core))

    def test_calls(self):
        for web in (ALONE, KITE, CROWDED):
            check_call(self, tree_count, {"web": web})
            check_call(self, trees, {"web": web})


class Trees(unittest.TestCase):
    def check_order(self, web):
        """Check that all trees are told, in order, without trying all lots."""
        found = trees(web)
        self.assertEqual(len(found), tree_count(web))
        rows = [row(web, lot) for lot in found]
        self.assertEqual(rows, sorted(set(rows)))
        self.assertTrue(all(len(lot) == web[0] - 1 and joins_all(web, lot) for lot in found))
        self.assertTrue(all(lot == tuple(sorted(set(lot))) and is_tree(web, lot) for lot in found))

    def test_great_webs(self):
        rng = random.Random(91)
        webs = large_webs() + [random_web(rng, 12, count) for count in (12, 13, 14, 15) for _ in range(4)]
        told = [web for web in webs if tree_count(web) <= 500]
        self.assertGreater(len(told), 10)
        for web in told:
            self.check_order(web)
        for web in [web for web in webs if tree_count(web) > 500]:
            self.assertEqual(caught(self, TooMany, trees, web).limit, 500)

    def test_too_many_at_just_more_than_500(self):
        # Bundles of ties in a row have as many trees as the product of their sizes.
        just = (12, tuple((k, k + 1) for k, many in enumerate((5, 5, 5, 4) + (1,) * 7) for _ in range(many)))
        self.assertEqual(tree_count(just), 500)
        self.check_order(just)
        self.check_order((12, just[1][::-1]))
        wide = (12, ROW[1] + ((0, 11),) * 29)
        self.assertEqual(tree_count(wide), 320)
        self.check_order(wide)
        for sizes in ((8, 7, 9), (2, 12, 21), (3, 9, 19), (7, 8, 9)):
            web = (4, tuple((k, k + 1) for k, many in enumerate(sizes) for _ in range(many)))
            many = sizes[0] * sizes[1] * sizes[2]
            self.assertEqual(tree_count(web), many)
            self.assertEqual(caught(self, TooMany, trees, web).limit, 500)
        self.assertEqual((len(trees_of(JUST_MORE)), tree_count(JUST_MORE)), (501, 501))
        self.assertEqual(caught(self, TooMany, trees, web=JUST_MORE).limit, 500)

    def test_very_many(self):
        for web in (CROWDED, DOUBLED, (12, ROW[1] * 3)):
            self.assertEqual(caught(self, TooMany, trees, web).limit, 500)

    def test_some(self):
        self.assertEqual(trees(ALONE), ((),))
        self.assertEqual(trees(ROW), (tuple(range(11)),))
        self.assertEqual(trees((2, ((0, 1),) * 3)), ((2,), (1,), (0,)))


class IsTree(unittest.TestCase):
    def test_all_lots_of_small_webs(self):
        for web in some_webs()[::2] + bent_webs():
            told = trees_of(web)
            for lot in all_lots_of(web):
                self.assertIs(is_tree(web, lot), lot in told)

    def test_any_value(self):
        for value in ODD_VALUES + ((0, 1, 2), [0, 1, 2], (2, 1, 0), (0, True, 2), (False, 1, 2), (0, 0, 1), (0, 1, 6),
                                   (0, 1, 3), (0, 1), (0, 1, 2, 3), (-1, 0, 1), ((0, 1, 2),), "012", (0, 1, "2")):
            self.assertIs(is_tree(FULL, value), repr(value) == "(0, 1, 2)")
            self.assertIs(is_tree(ALONE, value), repr(value) == "()")
            check_call(self, is_tree, {"web": FULL, "value": value})
        self.assertIs(is_tree(TRIANGLE, (0, 1, 2)), False)
        self.assertIs(is_tree(ROW, tuple(range(11))), True)
        self.assertIs(is_tree(ROW, tuple(range(10))), False)


if __name__ == "__main__":
    unittest.main()
