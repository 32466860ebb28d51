"""[A3], [K1] to [K3]: families of webs, and their both-even lots told by rules."""

import math
import unittest

from botheven.errors import Unfit
from botheven.evens import lot_many
from botheven.families import full, full_two, grid, ladder, lot_many_of, ring, wheel
from botheven.webs import web_error
from tests.oracles import ODD_VALUES, caught, check_call

FAR = 10 ** 30
NO_SIZES = tuple(value for value in ODD_VALUES if type(value) is not int) + (0, -1, -3, -10 ** 399, 10 ** 399, FAR)


def pairs(*rows):
    """Return the tuple of all pairs in the rows, one row behind another."""
    return tuple(pair for row in rows for pair in row)


class Tie_by_tie(unittest.TestCase):
    def check(self, web, many, ties):
        self.assertIsNone(web_error(web))
        self.assertEqual(web, (many, ties))
        self.assertEqual(repr(web), repr((many, ties)))

    def test_ring(self):
        self.check(ring(2), 2, ((0, 1), (0, 1)))
        self.check(ring(3), 3, ((0, 1), (1, 2), (0, 2)))
        self.check(ring(n=5), 5, ((0, 1), (1, 2), (2, 3), (3, 4), (0, 4)))
        for n in range(2, 13):
            self.check(ring(n), n, tuple((k, k + 1) for k in range(n - 1)) + ((0, n - 1),))

    def test_wheel(self):
        self.check(wheel(3), 4, ((0, 1), (0, 2), (0, 3), (1, 2), (2, 3), (1, 3)))
        self.check(wheel(4), 5, ((0, 1), (0, 2), (0, 3), (0, 4), (1, 2), (2, 3), (3, 4), (1, 4)))
        for n in range(3, 12):
            rim = ((k, k + 1) for k in range(1, n))
            self.check(wheel(n=n), n + 1, pairs(((0, k) for k in range(1, n + 1)), rim, ((1, n),)))

    def test_grid(self):
        self.check(grid(1, 1), 1, ())
        self.check(grid(1, 3), 3, ((0, 1), (1, 2)))
        self.check(grid(3, 1), 3, ((0, 1), (1, 2)))
        self.check(grid(m=2, n=3), 6, ((0, 1), (1, 2), (3, 4), (4, 5), (0, 3), (1, 4), (2, 5)))
        self.check(grid(3, 2), 6, ((0, 1), (2, 3), (4, 5), (0, 2), (1, 3), (2, 4), (3, 5)))
        for m in range(1, 13):
            for n in range(1, 12 // m + 1):
                across = ((i * n + j, i * n + j + 1) for i in range(m) for j in range(n - 1))
                down = ((i * n + j, (i + 1) * n + j) for i in range(m - 1) for j in range(n))
                self.check(grid(m, n), m * n, pairs(across, down))

    def test_ladder(self):
        self.check(ladder(1), 2, ((0, 1),))
        self.check(ladder(2), 4, ((0, 1), (2, 3), (0, 2), (1, 3)))
        for n in range(1, 7):
            self.assertEqual(ladder(n=n), grid(2, n))

    def test_full(self):
        self.check(full(1), 1, ())
        self.check(full(4), 4, ((0, 1), (0, 2), (0, 3), (1, 2), (1, 3), (2, 3)))
        for n in range(1, 10):
            ties = sorted((one, other) for one in range(n) for other in range(n) if one < other)
            self.check(full(n=n), n, tuple(ties))

    def test_full_two(self):
        self.check(full_two(1, 1), 2, ((0, 1),))
        self.check(full_two(2, 3), 5, ((0, 2), (0, 3), (0, 4), (1, 2), (1, 3), (1, 4)))
        for m in range(1, 12):
            for n in range(1, 13 - m):
                ties = sorted((one, m + other) for one in range(m) for other in range(n))
                self.check(full_two(m=m, n=n), m + n, tuple(ties))


class Sizes(unittest.TestCase):
    def test_one_beyond(self):
        for call, sizes in ((ring, (0, 1, 13)), (wheel, (1, 2, 12)), (ladder, (0, 7)), (full, (0, 10)),
                            (full, (-1, 12))):
            for n in sizes:
                caught(self, Unfit, call, n)
        for call, most in ((grid, lambda m, n: m * n <= 12), (full_two, lambda m, n: m + n <= 12)):
            for m in range(-2, 15):
                for n in range(-2, 15):
                    if m < 1 or n < 1 or not most(m, n):
                        caught(self, Unfit, call, m, n)
                    else:
                        self.assertIsNone(web_error(call(m, n)))
        caught(self, Unfit, grid, 3, 5)
        caught(self, Unfit, grid, m=12, n=2)
        caught(self, Unfit, full_two, 11, 2)

    def test_no_sizes(self):
        for value in NO_SIZES:
            for call in (ring, wheel, ladder, full):
                caught(self, Unfit, call, value)
                caught(self, Unfit, call, n=value)
            for call in (grid, full_two):
                caught(self, Unfit, call, value, 1)
                caught(self, Unfit, call, 1, value)
                caught(self, Unfit, call, value, value)
                caught(self, Unfit, call, n=2, m=value)

    def test_bools_are_none(self):
        for call, args in ((full, (True,)), (ladder, (True,)), (grid, (True, 2)), (grid, (2, True)),
                           (full_two, (True, 1))):
            caught(self, Unfit, call, *args)

    def test_calls(self):
        for call, low in ((ring, 2), (wheel, 3), (ladder, 1), (full, 1)):
            for value in (low, low + 3, 40, True, "2", (2,)):
                check_call(self, call, {"n": value})
        for call in (grid, full_two):
            for m, n in ((1, 1), (3, 4), (7, 2), (0, 1), (1, None), ([2], 2)):
                check_call(self, call, {"m": m, "n": n})


class Rules(unittest.TestCase):
    def test_held_against_the_webs_of_the_families(self):
        for word, call, sizes in (("ring", ring, range(2, 13)), ("wheel", wheel, range(3, 12)),
                                  ("ladder", ladder, range(1, 7)), ("full", full, range(1, 10))):
            for n in sizes:
                self.assertEqual(lot_many_of(word, (n,)), lot_many(call(n)), (word, n))
        for m in range(1, 13):
            for n in range(1, 12 // m + 1):
                self.assertEqual(lot_many_of("grid", (m, n)), lot_many(grid(m, n)))
            for n in range(1, 13 - m):
                self.assertEqual(lot_many_of("full two", (m, n)), lot_many(full_two(m, n)))

    def test_great_sizes(self):
        self.assertEqual(lot_many_of("ring", (FAR,)), 1)
        self.assertEqual(lot_many_of("ring", (FAR - 1,)), 0)
        self.assertEqual(lot_many_of("wheel", (FAR,)), 0)
        self.assertEqual(lot_many_of("wheel", (FAR - 1,)), 2)
        self.assertEqual(lot_many_of("grid", (FAR, 6 * 10 ** 20)), math.gcd(FAR, 6 * 10 ** 20) - 1)
        self.assertEqual(lot_many_of("grid", (FAR, FAR)), FAR - 1)
        self.assertEqual(lot_many_of("grid", (1, FAR)), 0)
        self.assertEqual((lot_many_of("ladder", (FAR,)), lot_many_of("ladder", (FAR - 1,))), (1, 0))
        self.assertEqual((lot_many_of("full", (FAR,)), lot_many_of("full", (FAR - 1,))), (FAR - 2, 0))
        self.assertEqual(lot_many_of("full two", (FAR, FAR)), 2 * FAR - 3)
        self.assertEqual(lot_many_of("full two", (FAR, FAR - 1)), FAR - 2)
        self.assertEqual(lot_many_of("full two", (FAR - 1, FAR)), FAR - 2)
        self.assertEqual(lot_many_of("full two", (FAR - 1, FAR - 3)), 0)

    def test_sizes_beyond_those_of_webs_are_let(self):
        self.assertEqual(lot_many_of("ring", (13,)), 0)
        self.assertEqual(lot_many_of("wheel", (12,)), 2)
        self.assertEqual(lot_many_of(word="full", sizes=(10,)), 8)
        self.assertEqual(lot_many_of("ladder", (7,)), 0)
        self.assertEqual(lot_many_of("ladder", (8,)), 1)
        self.assertEqual(lot_many_of("grid", (12, 18)), 5)

    def test_one_beyond(self):
        for word, least in (("ring", 2), ("wheel", 3), ("ladder", 1), ("full", 1)):
            self.assertGreaterEqual(lot_many_of(word, (least,)), 0)
            for size in (least - 1, 0, -least, FAR + 1, -FAR, 10 ** 399, True, str(least), (least,), None):
                caught(self, Unfit, lot_many_of, word, (size,))
            for sizes in ((), (4, 4), (4, 4, 4), [4], 4, None, (4, None)):
                caught(self, Unfit, lot_many_of, word, sizes)
        for word in ("grid", "full two"):
            self.assertEqual(lot_many_of(word, (1, 1)), 0)
            for size in (0, -1, FAR + 1, True, "1", None, [], (1,)):
                caught(self, Unfit, lot_many_of, word, (size, 2))
                caught(self, Unfit, lot_many_of, word, (2, size))
            for sizes in ((), (4,), (4, 4, 4), [4, 4], 4, "44", {4: 4}):
                caught(self, Unfit, lot_many_of, word, sizes)

    def test_words_that_are_none(self):
        for word in ODD_VALUES + ("Ring", "ring ", "rings", "full  two", "full_two", "two", "web", ["ring"], b"ring"):
            caught(self, Unfit, lot_many_of, word, (4,))
            caught(self, Unfit, lot_many_of, word, (4, 4))
        for sizes in ODD_VALUES:
            if not (type(sizes) is tuple and len(sizes) == 1):
                caught(self, Unfit, lot_many_of, "ring", sizes)
            caught(self, Unfit, lot_many_of, "full two", sizes)
            caught(self, Unfit, lot_many_of, sizes=sizes, word=None)

    def test_calls(self):
        for word, sizes in (("ring", (7,)), ("grid", (8, 12)), ("full", [4]), ([], (4,)), ("full two", (4, 4))):
            check_call(self, lot_many_of, {"word": word, "sizes": sizes})


if __name__ == "__main__":
    unittest.main()
