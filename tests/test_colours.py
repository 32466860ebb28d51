"""[A3], [F5], [F7]: both-even lots told by two colours of the places."""

import itertools
import random
import unittest

from botheven.colours import colours_of, lot_of
from botheven.errors import Unfit
from botheven.evens import all_lots, lot_base, lot_many
from tests.oracles import ALONE, CROWDED, DOUBLED, FULL, KITE, ROW, SQUARE, TRIANGLE
from tests.oracles import added, all_lots_of, bent_webs, both_even_lots, caught, check_call, even_cuts, large_webs
from tests.oracles import some_webs, thick_webs


def unlike_ties(web, colours):
    """Return the lot of all ties whose ends have unlike colours."""
    return tuple(tie for tie, (one, other) in enumerate(web[1]) if colours[one] != colours[other])


def other_at_all_places(web, colours):
    """Tell whether each place has an even number of ties to places of the other colour."""
    lot = unlike_ties(web, colours)
    return all(sum(place in web[1][tie] for tie in lot) % 2 == 0 for place in range(web[0]))


class Colours(unittest.TestCase):
    def test_all_colours_of_small_webs(self):
        found = set()
        for web in some_webs() + bent_webs():
            good = both_even_lots(web)
            for colours in itertools.product((0, 1), repeat=web[0]):
                lot = unlike_ties(web, colours)
                self.assertEqual(lot in good, other_at_all_places(web, colours))
                if lot in good:
                    self.assertEqual(lot_of(web, colours), lot)
                    turned = tuple(1 - colour for colour in colours)
                    self.assertEqual(colours_of(web, lot), turned if colours[0] else colours)
                else:
                    caught(self, Unfit, lot_of, web, colours)
                found.add(lot in good)
        self.assertEqual(found, {True, False})

    def test_all_lots_of_small_webs(self):
        for web in some_webs()[::2] + bent_webs():
            good = both_even_lots(web)
            for lot in all_lots_of(web):
                if lot not in good:
                    caught(self, Unfit, colours_of, web, lot)
                    continue
                colours = colours_of(web, lot)
                self.assertIs(type(colours), tuple)
                self.assertEqual(colours[0], 0)
                self.assertTrue(all(type(colour) is int and colour in (0, 1) for colour in colours))
                self.assertEqual(lot_of(web, colours), lot)

    def test_even_lots_and_cuts_alone_do_not_do(self):
        caught(self, Unfit, colours_of, TRIANGLE, (0, 1, 2))
        caught(self, Unfit, colours_of, TRIANGLE, (0, 1))
        caught(self, Unfit, colours_of, web=KITE, lot=(0, 1))
        caught(self, Unfit, lot_of, web=SQUARE, colours=(0, 1, 0, 0))

    def test_great_webs(self):
        rng = random.Random(80)
        for web in large_webs() + thick_webs():
            for lot in even_cuts(web)[:200]:
                colours = colours_of(web, lot)
                self.assertEqual(unlike_ties(web, colours), lot)
                self.assertEqual(lot_of(web, colours), lot)
            for _ in range(20):
                colours = tuple(rng.randrange(2) for _ in range(web[0]))
                if other_at_all_places(web, colours):
                    self.assertEqual(lot_of(web, colours), unlike_ties(web, colours))
                else:
                    caught(self, Unfit, lot_of, web, colours)

    def test_sums(self):
        for web in some_webs() + bent_webs() + thick_webs():
            lots = all_lots(web)[:16]
            for one, other in itertools.product(lots, repeat=2):
                total = [a ^ b for a, b in zip(colours_of(web, one), colours_of(web, other))]
                self.assertEqual(colours_of(web, added(one, other)), tuple(total))

    def test_as_many_colours_as_lots(self):
        for web in some_webs() + bent_webs():
            many = sum(other_at_all_places(web, (0,) + rest) for rest in itertools.product((0, 1), repeat=web[0] - 1))
            self.assertEqual(many, 2 ** lot_many(web))

    def test_one_colour(self):
        for web in (ALONE, KITE, ROW, CROWDED, DOUBLED):
            for colour in (0, 1):
                self.assertEqual(lot_of(web, (colour,) * web[0]), ())
            self.assertEqual(colours_of(web, ()), (0,) * web[0])

    def test_calls(self):
        for colours in itertools.product((0, 1), repeat=4):
            check_call(self, lot_of, {"web": FULL, "colours": colours})
        for lot in all_lots(FULL) + ((0,), (0, 1, 3)):
            check_call(self, colours_of, {"web": FULL, "lot": lot})
        check_call(self, colours_of, {"web": DOUBLED, "lot": lot_base(DOUBLED)[3]})


if __name__ == "__main__":
    unittest.main()
