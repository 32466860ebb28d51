"""[A3], [B1], [B3] to [B7]: deeds, what comes of them, and deeds in other orders."""

import itertools
import random
import unittest

from botheven.deeds import deed_error, done, lifted, never_below, told_together, undone
from botheven.errors import Unfit
from botheven.rounds import rounds
from tests.oracles import ALONE, BOW, DOUBLED, KITE, ODD_VALUES, TRIPLE
from tests.oracles import caught, check_call, one_closed_way, row, slow_done, some_webs

WEB = (3, ((0, 1), (1, 2), (0, 2), (0, 1)))
FAR, MOST = 10 ** 12, 10 ** 30


def slow_error(web, value):
    """Return what deed_error tells, in the document's order."""
    if type(value) is not tuple or len(value) != 3 or type(value[0]) is not str or value[0] not in ("star", "round"):
        return "form"
    word, target, times = value
    if word == "star" and not (type(target) is int and 0 <= target < web[0]):
        return "place"
    if word == "round":
        if type(target) is not tuple or not all(type(tie) is int and 0 <= tie < len(web[1]) for tie in target):
            return "round"
        if not one_closed_way(web, target):
            return "round"
    return None if type(times) is int and times and abs(times) <= MOST else "times"


def random_deeds(rng, web, many, most=3):
    """Return so many deeds of the web."""
    found = rounds(web)
    deeds = []
    for _ in range(many):
        times = rng.choice((-1, 1)) * rng.randint(1, most)
        if found and rng.random() < 0.5:
            deeds.append(("round", rng.choice(found), times))
        else:
            deeds.append(("star", rng.randrange(web[0]), times))
    return tuple(deeds)


class DeedError(unittest.TestCase):
    def test_deeds(self):
        for times in (1, -1, MOST, -MOST):
            for value in (("star", 0, times), ("star", 2, times), ("round", (0, 3), times), ("round", (0, 1, 2), times)):
                self.assertIsNone(deed_error(WEB, value))
        self.assertIsNone(deed_error(ALONE, ("star", 0, 1)))

    def test_form(self):
        for value in (None, "star", (), ("star",), ("star", 0), ("star", 0, 1, 1), ["star", 0, 1], ("Star", 0, 1),
                      ("stars", 0, 1), ("", 0, 1), (0, 0, 1), (None, 0, 1), (("star",), 0, 1), (["star"], 0, 1),
                      ({}, 0, 1), (True, 0, 0), ("cut", 9, 0), ("place", 0, 1), ("star ", 0, 1)):
            self.assertEqual(deed_error(WEB, value), "form", value)

    def test_place(self):
        for place in (3, -1, True, False, None, "0", (0,), [], {}, MOST):
            for times in (1, 0, None, MOST + 1):
                self.assertEqual(deed_error(WEB, ("star", place, times)), "place")

    def test_round(self):
        wrong = ((), (0,), (0, 1), (3, 0), (1, 0, 2), (0, 0), (0, 3, 3), (0, 4), (-1, 0), [0, 3], (0, True), (0, "3"),
                 None, 0, "03", {0: 3}, (0, 1, 2, 3), ((0, 3),), (False, 3))
        for lot in wrong:
            for times in (1, 0, None, MOST + 1):
                self.assertEqual(deed_error(WEB, ("round", lot, times)), "round", lot)

    def test_even_lots_that_are_no_rounds(self):
        self.assertEqual(deed_error(BOW, ("round", (0, 1, 2, 3, 4, 5), 1)), "round")
        self.assertEqual(deed_error(DOUBLED, ("round", (0, 4, 11, 15), 1)), "round")
        self.assertIsNone(deed_error(BOW, ("round", (3, 4, 5), 1)))

    def test_times(self):
        for times in (0, True, False, None, "1", (1,), [1], {}, MOST + 1, -MOST - 1, 10 ** 399):
            self.assertEqual(deed_error(WEB, ("star", 0, times)), "times")
            self.assertEqual(deed_error(WEB, ("round", (0, 3), times)), "times")

    def test_any_value(self):
        for value in ODD_VALUES:
            for web in (ALONE, TRIPLE, WEB):
                for deed in (value, ("star", value, 1), ("star", 0, value), ("round", value, 1),
                             ("round", (0, 1), value), (value, 0, 1), ("round", (0, value), 1)):
                    self.assertEqual(repr(deed_error(web, deed)), repr(slow_error(web, deed)))
            check_call(self, deed_error, {"web": WEB, "value": value})

    def test_all_lots_of_small_webs(self):
        for web in some_webs()[::4]:
            for many in range(4):
                for lot in itertools.product(range(len(web[1])), repeat=many):
                    self.assertEqual(deed_error(web, ("round", lot, 1)), slow_error(web, ("round", lot, 1)))


class Done(unittest.TestCase):
    def test_done_and_undone(self):
        rng = random.Random(9)
        for web in some_webs() + [DOUBLED]:
            for many in (0, 1, 3, 30):
                deeds = random_deeds(rng, web, many)
                standing = tuple(rng.randint(-5, 5) for _ in web[1])
                comes = done(web, standing, deeds)
                self.assertEqual(comes, slow_done(web, standing, deeds))
                self.assertEqual(done(web, comes, undone(deeds)), standing)
                self.assertEqual(undone(undone(deeds)), deeds)
                back = tuple((word, target, -times) for word, target, times in reversed(deeds))
                self.assertEqual(undone(deeds), back)
                mixed = list(deeds)
                rng.shuffle(mixed)
                self.assertEqual(done(web, standing, tuple(mixed)), comes)
                self.assertEqual(told_together(web, tuple(mixed)), told_together(web, deeds))
                check_call(self, done, {"web": web, "standing": standing, "deeds": deeds})
                check_call(self, undone, {"deeds": deeds})

    def test_nothing_to_do(self):
        self.assertEqual(done(WEB, (1, 2, 3, 4), ()), (1, 2, 3, 4))
        self.assertEqual(done(ALONE, (), ()), ())
        self.assertEqual(done(ALONE, (), (("star", 0, 5),)), ())
        self.assertEqual(undone(()), ())

    def test_numbers_beyond_those_of_standings(self):
        deeds = (("star", 0, MOST), ("star", 0, MOST), ("round", (0, 3), MOST))
        comes = done(WEB, (FAR, FAR, FAR, -FAR), deeds)
        self.assertEqual(comes, (3 * MOST + FAR, FAR, 2 * MOST + FAR, 3 * MOST - FAR))
        self.assertEqual(done(WEB, comes, undone(deeds)), (FAR, FAR, FAR, -FAR))

    def test_many_deeds(self):
        rng = random.Random(10)
        deeds = random_deeds(rng, KITE, 4000)
        self.assertEqual(done(KITE, (0,) * 5, deeds), slow_done(KITE, (0,) * 5, deeds))
        self.assertEqual(done(KITE, (0,) * 5, told_together(KITE, deeds)), done(KITE, (0,) * 5, deeds))


class ToldTogether(unittest.TestCase):
    def test_sums_and_their_order(self):
        rng = random.Random(11)
        for web in some_webs():
            for many in (0, 1, 2, 10, 25):
                deeds = random_deeds(rng, web, many)
                sums = {}
                for word, target, times in deeds:
                    sums[word, target] = sums.get((word, target), 0) + times
                left = [(word, target, times) for (word, target), times in sums.items() if times]
                stars = sorted(deed for deed in left if deed[0] == "star")
                others = sorted([deed for deed in left if deed[0] == "round"], key=lambda deed: row(web, deed[1]))
                self.assertEqual(told_together(web, deeds), tuple(stars + others))
                check_call(self, told_together, {"web": web, "deeds": deeds})
                self.assertEqual(told_together(web, told_together(web, deeds)), told_together(web, deeds))

    def test_sums_of_nought_are_left_out(self):
        deeds = (("star", 1, 2), ("round", (0, 3), 1), ("star", 1, -2), ("round", (0, 3), -1), ("star", 0, 1))
        self.assertEqual(told_together(WEB, deeds), (("star", 0, 1),))
        self.assertEqual(told_together(WEB, ()), ())

    def test_sums_beyond_the_bound_of_times(self):
        deeds = (("star", 1, MOST), ("round", (0, 3), -MOST)) * 3
        together = told_together(WEB, deeds)
        self.assertEqual(together, (("star", 1, 3 * MOST), ("round", (0, 3), -3 * MOST)))
        self.assertEqual(told_together(WEB, together), together)
        self.assertEqual(told_together(WEB, together + undone(together)), ())
        self.assertEqual(undone(together), (("round", (0, 3), 3 * MOST), ("star", 1, -3 * MOST)))
        self.assertEqual(done(WEB, (0,) * 4, together), (0, 3 * MOST, 0, 0))
        self.assertEqual(deed_error(WEB, together[0]), "times")
        self.assertTrue(never_below(WEB, (0,) * 4, together))
        self.assertFalse(never_below(WEB, (0,) * 4, together[::-1]))
        self.assertEqual(lifted(WEB, (0,) * 4, together[::-1]), together)


class NeverBelow(unittest.TestCase):
    def test_where_a_number_is_below(self):
        down, up = ("star", 0, -1), ("star", 0, 1)
        self.assertFalse(never_below(WEB, (0, -1, 0, 0), ()))
        self.assertFalse(never_below(WEB, (-1, 0, 0, 0), (up,)))
        self.assertFalse(never_below(WEB, (0, 0, 0, 0), (down, up)))
        self.assertFalse(never_below(WEB, (0, 0, 0, 0), (up, down, down, up)))
        self.assertFalse(never_below(WEB, (0, 0, 0, 0), (up, down, down)))
        self.assertTrue(never_below(WEB, (0, 0, 0, 0), (up, down)))
        self.assertTrue(never_below(WEB, (0, 0, 0, 0), ()))
        self.assertTrue(never_below(ALONE, (), (down,)))

    def test_held_against_one_deed_after_another(self):
        rng = random.Random(12)
        seen = set()
        for web in some_webs():
            for many in (0, 1, 2, 4, 8):
                deeds = random_deeds(rng, web, many)
                standing = tuple(rng.randint(-1, 4) if rng.random() < 0.2 else rng.randint(0, 6) for _ in web[1])
                met = [slow_done(web, standing, deeds[:k]) for k in range(many + 1)]
                told = all(number >= 0 for numbers in met for number in numbers)
                self.assertIs(never_below(web, standing, deeds), told)
                seen.add(told)
                check_call(self, never_below, {"web": web, "standing": standing, "deeds": deeds})
                self.check_lifted(web, standing, deeds)
        self.assertEqual(seen, {True, False})

    def check_lifted(self, web, standing, deeds):
        """Check that lifted adds first and never goes below, or raises where the ends are below."""
        check_call(self, lifted, {"web": web, "standing": standing, "deeds": deeds})
        if min(standing + slow_done(web, standing, deeds), default=0) < 0:
            caught(self, Unfit, lifted, web, standing, deeds)
            return
        told = [deed for deed in deeds if deed[2] > 0] + [deed for deed in deeds if deed[2] < 0]
        self.assertEqual(lifted(web, standing, deeds), tuple(told))
        self.assertTrue(never_below(web, standing, lifted(web, standing, deeds)))

    def test_lifted_keeps_equal_deeds(self):
        deeds = (("star", 1, -1), ("star", 0, 2), ("star", 1, -1), ("round", (0, 3), 5), ("star", 0, 2))
        told = (deeds[1], deeds[3], deeds[4], deeds[0], deeds[2])
        self.assertEqual(lifted(WEB, (0, 2, 0, 0), deeds), told)
        self.assertEqual(lifted(WEB, (0, 0, 0, 0), ()), ())

    def test_lifted_unfit(self):
        caught(self, Unfit, lifted, WEB, (0, 0, 0, -1), ())
        caught(self, Unfit, lifted, WEB, (-1, 0, 0, 0), (("star", 0, 1),))
        caught(self, Unfit, lifted, WEB, (5, 5, 5, 5), (("star", 2, -6),))
        caught(self, Unfit, lifted, web=WEB, standing=(0, 0, 0, 0), deeds=(("star", 0, -1),))


if __name__ == "__main__":
    unittest.main()
