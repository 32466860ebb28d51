"""[A3], [G3] to [G5]: the factors of a web's core, and papers on whether the number of its trees is odd."""

import itertools
import math
import random
import unittest

from botheven.evens import both_error, lot_base, lot_many
from botheven.factors import evens_among, heap_factors, odd_paper, odd_paper_holds
from botheven.trees import tree_count
from botheven.webs import matrix_of
from tests.oracles import ALONE, CROWDED, DOUBLED, FULL, KITE, ODD_VALUES, ROW, SQUARE, TRIANGLE, TRIPLE, WIDE
from tests.oracles import bent_webs, check_call, both_even_lots, large_webs, random_web, some_webs, thick_webs
from tests.test_trees import determinant


def core_of(web):
    return [line[1:] for line in matrix_of(web)[1:]]


def slow_factors(web):
    """Return the factors that are not 1, by the greatest common divisors of all determinants."""
    core = core_of(web)
    found, ahead = [], 1
    for many in range(1, len(core) + 1):
        common = 0
        for rows in itertools.combinations(core, many):
            for columns in itertools.combinations(range(len(core)), many):
                common = math.gcd(common, determinant([[line[k] for k in columns] for line in rows]))
        found.append(common // ahead)
        ahead = common
    return tuple(factor for factor in found if factor != 1)


class Factors(unittest.TestCase):
    def check_form(self, web):
        """Check what holds of all factors; return them."""
        factors = heap_factors(web)
        self.assertIs(type(factors), tuple)
        self.assertTrue(all(type(factor) is int and factor > 1 for factor in factors))
        self.assertTrue(all(other % one == 0 for one, other in zip(factors, factors[1:])))
        self.assertEqual(math.prod(factors), tree_count(web))
        self.assertEqual(evens_among(web), len([factor for factor in factors if factor % 2 == 0]))
        self.assertEqual(evens_among(web), lot_many(web))
        check_call(self, heap_factors, {"web": web})
        check_call(self, evens_among, {"web": web})
        return factors

    def test_held_against_all_determinants(self):
        rng = random.Random(100)
        webs = some_webs() + bent_webs() + [random_web(rng, 5, count) for count in (12, 16, 20, 30, 40)]
        webs += [random_web(rng, 4, 40), (3, ((0, 1),) * 6 + ((1, 2),) * 10), (3, ((0, 1),) * 4 + ((1, 2),) * 6)]
        webs += [(4, ((0, 1),) * 6 + ((1, 2),) * 10 + ((2, 3),) * 15)]
        for web in webs:
            self.assertEqual(self.check_form(web), slow_factors(web))

    def test_known_factors(self):
        for many in range(2, 10):
            full = (many, tuple(itertools.combinations(range(many), 2)))
            self.assertEqual(self.check_form(full), (many,) * (many - 2))
        for many in range(2, 13):
            ring = (many, tuple((k, k + 1) for k in range(many - 1)) + ((0, many - 1),))
            self.assertEqual(self.check_form(ring), (many,))
        self.assertEqual(self.check_form((12, ROW[1] * 3)), (3,) * 11)
        self.assertEqual(self.check_form(DOUBLED), (2,) * 11)
        self.assertEqual(self.check_form((4, ((0, 1),) * 6 + ((1, 2),) * 10 + ((2, 3),) * 15)), (30, 30))
        self.assertEqual(self.check_form((2, ((0, 1),) * 40)), (40,))
        for web in (ALONE, ROW):
            self.assertEqual(self.check_form(web), ())

    def test_great_webs(self):
        rng = random.Random(101)
        for web in large_webs() + thick_webs() + [random_web(rng, 12, 40) for _ in range(30)]:
            self.check_form(web)
        for web in [random_web(rng, 7, count) for count in (8, 12, 20)] + [WIDE[:1] + (WIDE[1][:20],)]:
            if web[0] == 7:
                self.assertEqual(self.check_form(web), slow_factors(web))

    def test_factors_of_a_web_do_not_hang_on_the_place_left_out(self):
        rng = random.Random(102)
        for web in large_webs():
            names = list(range(web[0]))
            rng.shuffle(names)
            other = (web[0], tuple(tuple(sorted((names[a], names[b]))) for a, b in web[1]))
            self.assertEqual(heap_factors(other), heap_factors(web))


class Papers(unittest.TestCase):
    def holds(self, web, word, what):
        """Tell whether rows or a lot are as the document says."""
        if word == "even":
            return what != () and both_error(web, what) is None
        core = core_of(web)
        for place, line in enumerate(what):
            for column in range(len(core)):
                total = sum(item * core[k][column] for k, item in enumerate(line))
                if total % 2 != (place == column):
                    return False
        return True

    def test_odd_paper(self):
        words = set()
        for web in some_webs() + bent_webs() + thick_webs() + large_webs():
            word, what = odd_paper(web)
            words.add(word)
            self.assertEqual(word, "odd" if tree_count(web) % 2 else "even")
            if word == "odd":
                self.assertEqual({type(line) for line in what} | {type(what)}, {tuple})
                self.assertEqual([len(line) for line in what], [web[0] - 1] * (web[0] - 1))
                self.assertTrue(all(type(item) is int and item in (0, 1) for line in what for item in line))
            self.assertTrue(self.holds(web, word, what))
            self.assertIs(odd_paper_holds(web, (word, what)), True)
            check_call(self, odd_paper, {"web": web})
        self.assertEqual(words, {"odd", "even"})
        self.assertEqual(odd_paper(ALONE), ("odd", ()))
        self.assertEqual(odd_paper(SQUARE), ("even", (0, 1, 2, 3)))

    def test_all_tables_of_small_webs(self):
        for web in [web for web in some_webs() + bent_webs() if web[0] < 4]:
            many, found = web[0] - 1, []
            for items in itertools.product((0, 1), repeat=many * many):
                rows = tuple(items[k * many:k * many + many] for k in range(many))
                self.assertIs(odd_paper_holds(web, ("odd", rows)), self.holds(web, "odd", rows))
                found += [rows] if self.holds(web, "odd", rows) else []
            self.assertEqual(len(found), tree_count(web) % 2)

    def test_all_lots_of_small_webs(self):
        for web in some_webs()[::4] + bent_webs()[::3]:
            good = both_even_lots(web)
            for many in range(len(web[1]) + 1):
                for lot in itertools.combinations(range(len(web[1])), many):
                    self.assertIs(odd_paper_holds(web, ("even", lot)), lot in good and lot != ())

    def test_great_webs(self):
        for web in large_webs() + thick_webs():
            for lot in lot_base(web):
                self.assertIs(odd_paper_holds(web, ("even", lot)), True)
                self.assertIs(odd_paper_holds(web, ("even", lot[1:])), False)
            word, rows = odd_paper(web)
            if word == "odd" and web[0] > 1:
                turned = ((1 - rows[0][0],) + rows[0][1:],) + rows[1:]
                self.assertIs(odd_paper_holds(web, ("odd", turned)), False)
                self.assertIs(odd_paper_holds(web, ("odd", rows[:-1])), False)
                self.assertIs(odd_paper_holds(web, ("odd", rows + rows[:1])), False)

    def test_any_value(self):
        rows = ((0, 1), (1, 0))
        self.assertIs(odd_paper_holds(TRIANGLE, ("odd", rows)), True)
        wrong = [(word, what) for word in ("odd", "even") for what in ODD_VALUES] + list(ODD_VALUES)
        wrong += [
            ("odd", ((0, True), (1, 0))), ("odd", ((False, 1), (1, 0))), ("odd", ((0, 3), (1, 0))), ["odd", rows],
            ("odd", ((0, -1), (1, 0))), ("odd", ((2, 1), (1, 0))), ("odd", [(0, 1), (1, 0)]), ("odd", ([0, 1], (1, 0))),
            ("odd", ((0, 1),)), ("odd", ((0, 1, 0), (1, 0, 0))), ("odd", rows + ((0, 0),)), ("odd", rows, rows),
            ("odd", ((0, 1), (1,))), ("odd", ((0, 1), (1, 0, 0))), ("odd", ((0, "1"), (1, 0))), ("odd", (0, 1, 1, 0)),
            ("odd", ((1, 0), (0, 1))), ("Odd", rows), ("odd",), (rows, "odd"), ("even", rows), ("even", ()), rows,
            ("even", (0, 1)), ("even", (0, 1, 2)), ("odd", ((0, 1), (1, None))), ("odd", ((0, 10 ** 399), (1, 0))),
        ]
        for value in wrong:
            self.assertIs(odd_paper_holds(TRIANGLE, value), False)
            check_call(self, odd_paper_holds, {"web": TRIANGLE, "value": value})
        lot = (0, 1, 2, 3)
        wrong = [
            ("even", list(lot)), ["even", lot], ("even", (3, 2, 1, 0)), ("even", (False, 1, 2, 3)), ("odd", lot), lot,
            ("even", (False, True, 2, 3)), ("even", lot, 0), ("even", ()), ("even", (0, 1)), ("both", lot),
        ]
        for value in wrong:
            self.assertIs(odd_paper_holds(SQUARE, value), False)
            self.assertIs(odd_paper_holds(KITE, value), False)
        self.assertIs(odd_paper_holds(SQUARE, ("even", lot)), True)

    def test_web_of_one_place(self):
        for value in ODD_VALUES + (("odd", ()), ("odd", []), ("even", ()), ("odd", ((),)), ["odd", ()], ("odd", None)):
            told = type(value) is tuple and value == ("odd", ())
            self.assertIs(odd_paper_holds(ALONE, value), told)
        self.assertIs(odd_paper_holds((2, ((0, 1),)), ("odd", ((1,),))), True)
        self.assertIs(odd_paper_holds((2, ((0, 1),)), ("odd", ((True,),))), False)
        self.assertIs(odd_paper_holds(TRIPLE, ("odd", ((1,),))), True)

    def test_odd_just_where_nothing_is_both_even(self):
        for web in some_webs() + bent_webs() + large_webs():
            self.assertEqual(tree_count(web) % 2 == 1, lot_base(web) == ())
        self.assertEqual(evens_among(FULL), 2)
        self.assertEqual(evens_among(CROWDED), lot_many(CROWDED))


if __name__ == "__main__":
    unittest.main()
