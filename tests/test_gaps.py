"""[A3], [M1] to [M5]: gaps, standings mended, and how many ties both-even lots have."""

import itertools
import random
import unittest

from botheven.errors import Held, Thin, TooMany
from botheven.evens import lot_base, lot_many
from botheven.gaps import fewest_left, mended, widest
from botheven.joining import joined_by
from botheven.lots import lot_error
from botheven.sizes import least_lot, lots_by_size
from botheven.splits import split
from botheven.standings import standing_error
from tests.oracles import ALONE, BOW, CROWDED, DOUBLED, FULL, KITE, ROW, TAIL, TRIO, TRIPLE, WIDE
from tests.oracles import added, all_lots_of, bent_webs, both_even_lots, caught, check_call, even_cuts, large_webs
from tests.oracles import random_standing, random_web, row, slow_done, some_webs, thick_webs

FAR = 10 ** 12
# Two places less than DOUBLED has: b is 9, 10 and 11.
TENFOLD = (11, tuple((k, k + 1) for k in range(10)) * 2)
NARROW = (11, tuple((k, k + 1) for k in range(10)) * 4)


def rest_of(held, lot):
    """Return how the lot meets each of the both-even lots."""
    return tuple(len(set(one) & set(lot)) % 2 for one in held)


def gaps_by_hand(web):
    """Return a dict: each rest, with its lots, in order."""
    held, found = both_even_lots(web), {}
    for lot in all_lots_of(web):
        found.setdefault(rest_of(held, lot), []).append(lot)
    return held, found


def small_webs():
    rng = random.Random(330)
    found = some_webs()[::3] + bent_webs()[::3] + [ALONE, KITE, FULL, TRIPLE, BOW, TRIO]
    found += [(2, ((0, 1),) * 8), (4, ((0, 1), (0, 1), (1, 2), (1, 2), (2, 3), (2, 3))), (5, ROW[1][:4] * 2)]
    return [web for web in found + [random_web(rng, 4, 9) for _ in range(5)] if len(web[1]) < 10]


class Fewest(unittest.TestCase):
    def test_held_against_a_search_through_all_lots(self):
        for web in small_webs():
            held, rests = gaps_by_hand(web)
            self.assertEqual(len(rests), 2 ** lot_many(web))
            for rest, lots in rests.items():
                gap = min(len(lot) for lot in lots)
                for lot in lots[::1 + len(lots) // 8]:
                    left = fewest_left(web, lot)
                    self.assertIsNone(lot_error(web, left))
                    self.assertEqual((len(left), rest_of(held, left)), (gap, rest))

    def test_widest(self):
        greatest = set()
        for web in small_webs():
            _, rests = gaps_by_hand(web)
            gaps = {rest: min(len(lot) for lot in lots) for rest, lots in rests.items()}
            most = max(gaps.values())
            lots = [lot for rest in rests if gaps[rest] == most for lot in rests[rest]]
            greatest.add(most)
            self.assertEqual(widest(web), (most, min(lots, key=lambda lot: row(web, lot))))
        self.assertTrue({0, 1, 2, 3, 4} <= greatest)

    def test_some(self):
        self.assertEqual((widest(ALONE), fewest_left(ALONE, ())), ((0, ()), ()))
        self.assertEqual((widest(KITE), widest(ROW), widest(TAIL)), ((1, (3,)), (0, ()), (1, (3,))))
        self.assertEqual(widest((5, ROW[1][:4] * 2)), (4, (4, 5, 6, 7)))

    def test_ten_and_eleven(self):
        self.assertEqual((lot_many(TENFOLD), lot_many(NARROW), lot_many(DOUBLED)), (10, 10, 11))
        self.assertEqual(widest(TENFOLD), (10, tuple(range(10, 20))))
        self.assertEqual(widest(NARROW), (10, tuple(range(30, 40))))
        self.assertEqual(len(fewest_left(NARROW, tuple(range(10)))), 10)
        self.assertEqual(fewest_left(NARROW, tuple(range(20))), ())
        self.assertEqual(lots_by_size(TENFOLD)[:3], ((0, 1), (2, 10), (4, 45)))
        for call, args in ((fewest_left, ((),)), (widest, ()), (lots_by_size, ()), (least_lot, ()),
                           (fewest_left, ((0, 5),))):
            self.assertEqual(caught(self, TooMany, call, DOUBLED, *args).limit, 10)

    def test_told_soon_for_great_webs(self):
        rng = random.Random(331)
        told = set()
        for web in large_webs() + [NARROW, TENFOLD, WIDE, CROWDED]:
            if lot_many(web) > 10:
                continue
            base = lot_base(web)
            number, lot = widest(web)
            told.add(number)
            self.assertEqual(len(fewest_left(web, lot)), number)
            self.assertLessEqual(number, min(len(base), len({tie for one in base for tie in one})))
            for _ in range(5):
                one = tuple(tie for tie in range(len(web[1])) if rng.random() < 0.5)
                left = fewest_left(web, one)
                self.assertEqual(rest_of(base, left), rest_of(base, one))
                self.assertLessEqual(len(left), min(len(one), number))
        self.assertGreater(len(told), 2)

    def test_ties_in_another_order(self):
        rng = random.Random(332)
        for web in small_webs():
            order = list(range(len(web[1])))
            rng.shuffle(order)
            turned = (web[0], tuple(web[1][tie] for tie in order))
            self.assertEqual(widest(turned)[0], widest(web)[0])
            self.assertEqual(lots_by_size(turned), lots_by_size(web))
            for lot in all_lots_of(web)[::7]:
                there = tuple(sorted(order.index(tie) for tie in lot))
                self.assertEqual(len(fewest_left(turned, there)), len(fewest_left(web, lot)))

    def test_calls(self):
        for web in (KITE, ALONE, NARROW, DOUBLED):
            for call in (widest, lots_by_size, least_lot):
                check_call(self, call, {"web": web})
            check_call(self, fewest_left, {"web": web, "lot": () if web == ALONE else (0, 1)})


class Mended(unittest.TestCase):
    def check(self, web, standing, other):
        """Check a standing that is mended; return at how many ties it is unlike."""
        found = mended(web, standing, other)
        self.assertIsNone(standing_error(web, found))
        self.assertEqual(slow_done(web, found, joined_by(web, found, other)), other)
        return len([tie for tie in range(len(web[1])) if found[tie] != standing[tie]])

    def test_as_few_ties_as_a_search_finds(self):
        rng = random.Random(333)
        counts = set()
        for web in [web for web in thick_webs() if len(web[1]) < 10] + [(3, ((0, 1), (1, 2)) * 4)]:
            held = even_cuts(web)
            for _ in range(12):
                standing, other = random_standing(rng, web, -2, 2), random_standing(rng, web, -2, 2)
                odd = tuple(tie for tie in range(len(web[1])) if (standing[tie] - other[tie]) % 2)
                lots = [lot for lot in all_lots_of(web) if rest_of(held, lot) == rest_of(held, odd)]
                fewest = min(len(lot) for lot in lots)
                counts.add(fewest)
                self.assertEqual(self.check(web, standing, other), fewest)
                self.assertEqual(len(fewest_left(web, odd)), fewest)
        self.assertTrue({0, 1, 2} <= counts)

    def test_numbers_at_the_bounds(self):
        for web in [web for web in thick_webs() if web[1] and lot_many(web) <= 10]:
            for near in (FAR, -FAR):
                standing = (near,) * len(web[1])
                for other in ((0,) * len(web[1]), (1,) + (0,) * (len(web[1]) - 1), (FAR - 1,) * len(web[1])):
                    self.check(web, standing, other)
        four = (2, ((0, 1),) * 4)
        for near in (FAR, -FAR):
            self.assertEqual(self.check(four, (near,) * 4, (1, 0, 0, 0)), 1)
        self.assertEqual(mended(TRIPLE, (FAR, FAR, -FAR), (0, 0, 1)), (FAR, FAR, -FAR))

    def test_thin_ahead_of_too_many(self):
        for web in (DOUBLED, KITE, ROW, TENFOLD):
            error = caught(self, Thin, mended, web, (0,) * len(web[1]), (1,) * len(web[1]))
            self.assertIn(len(error.lot), (1, 2))
        thick = (12, ROW[1] * 3 + ((0, 1), (2, 3), (4, 5), (6, 7), (8, 9), (10, 11), (0, 11)))
        self.assertLess(lot_many(thick), 11)
        self.check(thick, (0,) * 40, (1,) * 40)

    def test_too_many(self):
        # Each cut of a ring with two ties between neighbours has four ties at least, and all cuts are even.
        ring = (12, ROW[1] * 2 + ((0, 11),) * 2 + ((0, 6),) * 2)
        self.assertEqual(lot_many(ring), 11)
        self.assertEqual(caught(self, TooMany, mended, ring, (0,) * 26, (1,) * 26).limit, 10)

    def test_calls(self):
        for web in (FULL, TRIPLE, ALONE, KITE):
            many = len(web[1])
            check_call(self, mended, {"web": web, "standing": (0,) * many,
                                      "other": (1,) + (0,) * (many - 1) if many else ()})


class Sizes(unittest.TestCase):
    def test_held_against_all_both_even_lots(self):
        for web in small_webs():
            lots = both_even_lots(web)
            sizes = [len(lot) for lot in lots]
            self.assertEqual(lots_by_size(web), tuple((size, sizes.count(size)) for size in sorted(set(sizes))))
            least = least_lot(web)
            if len(lots) == 1:
                self.assertIsNone(least)
            else:
                self.assertIn(least, lots)
                self.assertEqual(len(least), min(len(lot) for lot in lots if lot))

    def test_great_webs(self):
        for web in [web for web in large_webs() + [NARROW, TENFOLD] if lot_many(web) <= 10]:
            rows = lots_by_size(web)
            base, lots = lot_base(web), [()]
            for lot in base:
                lots += [added(lot, one) for one in lots]
            sizes = [len(lot) for lot in lots]
            self.assertEqual(rows, tuple((size, sizes.count(size)) for size in sorted(set(sizes))))
            self.assertEqual(sum(many for _, many in rows), 2 ** lot_many(web))
            self.assertTrue(all(size % 2 == 0 and many > 0 for size, many in rows))
            if base:
                self.assertIn(least_lot(web), lots)
                self.assertEqual(len(least_lot(web)), rows[1][0])

    def test_some(self):
        self.assertEqual((lots_by_size(ALONE), least_lot(ALONE)), (((0, 1),), None))
        self.assertEqual((lots_by_size(ROW), least_lot(ROW)), (((0, 1),), None))
        self.assertEqual((lots_by_size((2, ((0, 1),) * 40)), least_lot((2, ((0, 1),) * 40))),
                         (((0, 1), (40, 1)), tuple(range(40))))


class What_holds(unittest.TestCase):
    def test_gap_0_where_a_split_is(self):
        for web in small_webs()[::2]:
            for lot in all_lots_of(web)[::3]:
                try:
                    split(web, lot)
                    fits = True
                except Held:
                    fits = False
                self.assertEqual(fewest_left(web, lot) == (), fits)

    def test_gaps_of_sums(self):
        rng = random.Random(334)
        for web in small_webs():
            lots = all_lots_of(web)
            inner = {tie for lot in both_even_lots(web) for tie in lot}
            for _ in range(10):
                one, other = rng.choice(lots), rng.choice(lots)
                gap, more, both = [len(fewest_left(web, lot)) for lot in (one, other, added(one, other))]
                self.assertLessEqual(both, gap + more)
                self.assertLessEqual(gap, min(lot_many(web), len(inner)))

    def test_standings_are_joined_where_the_gap_is_0(self):
        for web in [web for web in thick_webs() if len(web[1]) < 8]:
            for other in itertools.islice(itertools.product((0, 1, 2), repeat=len(web[1])), 0, None, 37):
                nought = (0,) * len(web[1])
                odd = tuple(tie for tie in range(len(web[1])) if other[tie] % 2)
                self.assertEqual(fewest_left(web, odd) == (), mended(web, nought, other) == nought)


if __name__ == "__main__":
    unittest.main()
