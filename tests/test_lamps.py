"""[A3], [J4] to [J6]: lamps that stars and rounds turn on and off."""

import itertools
import random
import unittest

from botheven.errors import Apart, Held, TooMany
from botheven.evens import both_error
from botheven.lamps import fewest_deeds, hardest, switched
from botheven.splits import split
from tests.oracles import ALONE, CROWDED, DOUBLED, FAT, FULL, KITE, ROW, SQUARE, TAIL, TRIANGLE, TRIO
from tests.oracles import added, all_lots_of, all_rounds_of, bent_webs, caught, check_call, grown_web, large_webs
from tests.oracles import random_web, row, slow_done, some_webs, stars_of

SIDES = (6, tuple(itertools.product(range(3), range(3, 6))))
FIVE = (5, tuple(itertools.combinations(range(5), 2)))


def needed(web):
    """Return a dict: each lot that can be turned off, with how many stars and rounds it needs."""
    moves = [frozenset(lot) for lot in stars_of(web) + all_rounds_of(web)]
    found, layer, many = {frozenset(): 0}, [frozenset()], 0
    while layer:
        many += 1
        behind = {one ^ move for one in layer for move in moves} - set(found)
        found.update({one: many for one in behind})
        layer = list(behind)
    return {tuple(sorted(one)): count for one, count in found.items()}


def hardest_by_hand(web):
    """Return what the search tells of the lot that needs most deeds."""
    need = needed(web)
    most = max(need.values())
    return most, min((lot for lot in need if need[lot] == most), key=lambda lot: row(web, lot))


def webs_of_at_most_10_ties():
    rng = random.Random(250)
    found = some_webs()[::3] + bent_webs()[::2]
    found += [FIVE, SIDES, (11, ROW[1][:10]), (6, ROW[1][:5] * 2), FULL, TAIL, TRIO]
    found += [random_web(rng, many, 10) for many in range(3, 11)] + [(2, ((0, 1),) * many) for many in range(1, 11)]
    found += [web for web in (grown_web(rng, 9) for _ in range(30)) if len(web[1]) < 11]
    return found


class Switched(unittest.TestCase):
    def test_random_deeds(self):
        rng = random.Random(251)
        for web in some_webs() + bent_webs():
            rounds = all_rounds_of(web)
            for _ in range(4):
                times = [rng.choice((1, -1, 2, -2, 3, -7, 10 ** 30, 10 ** 30 - 1, -10 ** 30)) for _ in range(5)]
                deeds = [("star", rng.randrange(web[0]), many) for many in times]
                deeds += [("round", rng.choice(rounds), many) for many in times if rounds]
                rng.shuffle(deeds)
                lot = tuple(tie for tie in range(len(web[1])) if rng.random() < 0.5)
                numbers = slow_done(web, row(web, lot), deeds)
                told = tuple(tie for tie, number in enumerate(numbers) if number % 2)
                self.assertEqual(switched(web, lot, tuple(deeds)), told)
                self.assertEqual(switched(web, lot, tuple(deeds[::-1])), told)
                self.assertEqual(switched(web, told, tuple(deeds)), lot)

    def test_no_deeds_and_even_times(self):
        for web in (ALONE, KITE, DOUBLED, CROWDED):
            for lot in ((), tuple(range(len(web[1])))):
                self.assertEqual(switched(web, lot, ()), lot)
                self.assertEqual(switched(web, lot, (("star", 0, 2), ("star", 0, -4))), lot)
        self.assertEqual(switched(SQUARE, (0, 2), (("star", 0, -3),)), (2, 3))
        deeds = (("star", 0, 1), ("star", 0, 1), ("round", (0, 1, 2, 3), -1))
        self.assertEqual(switched(SQUARE, (1,), deeds), (0, 2, 3))

    def test_calls(self):
        for lot in all_lots_of(KITE)[::3]:
            for deeds in ((), (("star", 2, -1),), (("round", (0, 1, 4), 5), ("star", 0, 1))):
                check_call(self, switched, {"web": KITE, "lot": lot, "deeds": deeds})


class Fewest(unittest.TestCase):
    def check_off(self, web, lot, deeds, many):
        """Check that as few deeds as told, each with the times 1, turn the lot off, and on."""
        self.assertIs(type(deeds), tuple)
        self.assertEqual(len(deeds), many)
        self.assertTrue(all(times == 1 and type(times) is int for _, _, times in deeds))
        self.assertEqual(set(slow_done(web, row(web, lot), deeds)) - {0, 2, 4, 6, 8, 10, 12}, set())
        self.assertEqual(switched(web, lot, deeds), ())
        self.assertEqual(switched(web, (), deeds), lot)

    def test_held_against_a_search(self):
        for web in webs_of_at_most_10_ties():
            need = needed(web)
            lots = all_lots_of(web)
            for lot in lots[::1 + len(lots) // 100]:
                if lot in need:
                    self.check_off(web, lot, fewest_deeds(web, lot), need[lot])
                    continue
                held = caught(self, Apart, fewest_deeds, web, lot).lot
                self.assertIsNone(both_error(web, held))
                self.assertEqual(len(set(held) & set(lot)) % 2, 1)

    def test_hardest(self):
        for web in webs_of_at_most_10_ties():
            most, first = hardest(web)
            self.assertEqual((most, first), hardest_by_hand(web))
            self.assertEqual(len(fewest_deeds(web, first)), most)

    def test_apart_just_where_there_is_no_split(self):
        for web in (SQUARE, KITE, FAT, FULL, TRIANGLE, TRIO):
            for lot in all_lots_of(web):
                try:
                    split(web, lot)
                    self.assertEqual(switched(web, lot, fewest_deeds(web, lot)), ())
                except Held:
                    caught(self, Apart, fewest_deeds, web, lot)

    def test_too_many_ties(self):
        for web in [(2, ((0, 1),) * 11)] + [web for web in large_webs() if len(web[1]) > 10]:
            self.assertEqual(caught(self, TooMany, fewest_deeds, web, ()).limit, 10)
            self.assertEqual(caught(self, TooMany, fewest_deeds, web, (0,)).limit, 10)
            self.assertEqual(caught(self, TooMany, hardest, web).limit, 10)
        # The ring of two ties, five times, has 10; with one more it is told ahead of Apart.
        doubled = (6, ROW[1][:5] * 2)
        self.assertEqual(caught(self, Apart, fewest_deeds, doubled, (0,)).lot, (0, 5))
        self.assertEqual(caught(self, TooMany, fewest_deeds, (6, doubled[1] + ((0, 5),)), (0,)).limit, 10)
        caught(self, TooMany, hardest, web=(2, ((0, 1),) * 11))

    def test_10_ties(self):
        two = (2, ((0, 1),) * 10)
        self.assertEqual(hardest(two), hardest_by_hand(two))
        self.assertEqual(len(fewest_deeds(two, (0, 1))), 1)
        self.assertEqual(fewest_deeds(two, tuple(range(10))), (("star", 0, 1),))
        self.assertEqual(caught(self, Apart, fewest_deeds, two, (0,)).lot, tuple(range(10)))
        row_of_ten = (11, ROW[1][:10])
        self.assertEqual(hardest(row_of_ten), hardest_by_hand(row_of_ten))

    def test_some(self):
        self.assertEqual((fewest_deeds(ALONE, ()), hardest(ALONE)), ((), (0, ())))
        self.assertEqual(fewest_deeds(SQUARE, ()), ())
        self.assertEqual(added((0, 3), (2, 3)), (0, 2))
        self.assertEqual(len(fewest_deeds(SQUARE, (0, 2))), 2)
        for web in (ALONE, KITE, FULL):
            check_call(self, hardest, {"web": web})
            for lot in all_lots_of(web)[::5]:
                check_call(self, fewest_deeds, {"web": web, "lot": lot})


if __name__ == "__main__":
    unittest.main()
