"""[A3]: what takes any value takes right ones with parts changed, too, and fails with errors of the package alone."""

import copy
import random
import unittest

from botheven import benches, boxes, classes, deeds, drawings, errors, evens, factors, families, joining, logs, lots
from botheven import marks, namings, poleterms, rests, shells, sides, slopes, sorts, standings, together, trees, webs
from botheven import webtexts
from tests.oracles import FAT, FULL, KITE, ODD_VALUES, SQUARE, TRIANGLE, TRIPLE, outcome

PAIR = ((2, ((0, 1), (0, 1))), ((0, 1), (0, 1)))
RING = ((3, ((0, 1), (0, 2), (1, 2))), ((0, 1), (0, 2), (1, 2)))
FOUR = ((2, ((0, 1),) * 4), ((0, 1, 2, 3), (0, 1, 2, 3)))


def kept_bench():
    bench = benches.Bench()
    bench.add("four", FAT, (1, 0, 0, 0))
    bench.add("kite", KITE, (0,) * 5)
    bench.do("kite", (("star", 0, 2),))
    return bench


BENCH = kept_bench()
EDITS = (("add", "x", TRIANGLE, (0, 0, 0)), ("tie", "x", 0, 1, 5), ("pinch", "kite", 4),
         ("do", "four", (("round", (0, 1), 1),)))
TERM = ("row", ("sides", "tie", 3), ("side", ("rows", "tie", 2), "tie"))

# Calls of one value, each with right values to begin with.
CALLS = (
    (webs.web_error, (KITE, FULL)), (webtexts.read_web, ("4: 0-1 1-2 2-3 0-3 0-2",)),
    (lambda value: lots.lot_error(KITE, value), ((0, 4), ())),
    (lambda value: standings.standing_error(KITE, value), ((0,) * 5,)),
    (lambda value: deeds.deed_error(KITE, value), (("star", 0, 1), ("round", (0, 1, 4), -1))),
    (lambda value: joining.is_parting(FULL, (0,) * 6, (1,) + (0,) * 5, value), ((0, 2, 3, 5),)),
    (lambda value: classes.class_at(FULL, value), (0, 3)),
    (lambda value: slopes.slope_error(KITE, value), ((1, -1, 1, -1, 0),)),
    (lambda value: marks.is_parted(KITE, (0,) * 5, (1, 0, 0, 0, 0), value),
     (("slope", (1, -1, 1, -1, 0)), ("lot", (0, 1, 2, 3)))),
    (lambda value: evens.both_error(KITE, value), ((0, 1, 2, 3), ())), (lambda value: evens.lot_at(FULL, value), (2,)),
    (lambda value: trees.is_tree(KITE, value), ((0, 1, 2),)),
    (lambda value: factors.odd_paper_holds(TRIANGLE, value), (("odd", ((0, 1), (1, 0))),)),
    (lambda value: factors.odd_paper_holds(FULL, value), (("even", (0, 2, 3, 5)),)),
    (lambda value: sorts.sort_paper_holds(KITE, 4, value), (("round", (0, 1, 4)),)),
    (drawings.drawing_error, (PAIR, RING, FOUR)),
    (lambda value: rests.parts_modulo(SQUARE, 4, (0,) * 4, (1, 0, 0, 0), value),
     (("slope", (1, -1, 1, -1)), ("lot", (0, 1, 2, 3)))),
    (families.ring, (5,)), (families.full, (3,)), (lambda value: families.grid(value, 2), (3,)),
    (lambda value: families.lot_many_of("grid", value), ((4, 6),)),
    (lambda value: families.lot_many_of(value, (4,)), ("ring",)),
    (lambda value: together.many_fold(TRIPLE, value), (2,)), (lambda value: together.cut_small(TRIPLE, value), (2,)),
    (lambda value: BENCH.copy().batch(value), (EDITS,)),
    (lambda value: BENCH.copy().do("four", value), ((("star", 0, 1),),)),
    (lambda value: BENCH.copy().add("x", value, (0,) * 5), (KITE,)),
    (lambda value: BENCH.copy().add(value, KITE, (0,) * 5), ("x",)),
    (lambda value: BENCH.copy().stand("four", value), ((0,) * 4,)),
    (lambda value: BENCH.copy().tie("four", 0, value, value), (1,)),
    (lambda value: BENCH.copy().untie("kite", value), (0,)), (lambda value: BENCH.search(KITE, value), ((0,) * 5,)),
    (lambda value: BENCH.search(value, (0,) * 5), (KITE,)), (BENCH.base, ("four",)), (BENCH.at, (2,)),
    (lambda value: BENCH[value], ("four",)),
    (lambda value: shells.Shell().say(value), ("names", "add x 0,0,0 3: 0-1 0-2 1-2")),
    (lambda value: BENCH == value, (BENCH.copy(),)),
    (lambda value: sides.is_side(FOUR, value), ((0, 1, 2, 3),)),
    (lambda value: boxes.box_part(SQUARE, 2, value), ((0, 1, 2, 0),)),
    (lambda value: boxes.box_way(SQUARE, 1, value, value), ((0, 1, 1, 0),)), (poleterms.term_error, (TERM,)),
    (poleterms.read_term, ("([-*3] [(-*2) -])",)), (lambda value: namings.naming_error(4, value), ((3, 1, 0, 2),)),
    (lambda value: namings.tie_moves(KITE, value), ((2, 1, 0, 3),)), (logs.read_log, (logs.log_text(EDITS),)),
    (lambda value: namings.moved(KITE, value, (1, 2, 3, 4, 5)), ((0, 3, 2, 1),)),
)


def changed(rng, value, others):
    """Return the value with some part changed."""
    if isinstance(value, tuple) and value and rng.random() < 0.8:
        k = rng.randrange(len(value))
        return value[:k] + (changed(rng, value[k], others),) + value[k + 1:]
    if isinstance(value, tuple) and rng.random() < 0.6:
        return rng.choice((value[:-1], value + value[:1], value + (0,), list(value), value[::-1], (value,),
                           {"a": value}))
    if type(value) is int and rng.random() < 0.7:
        return rng.choice((value + 1, value - 1, -value, str(value), bool(value), [value], 10 ** 399))
    if type(value) is str and rng.random() < 0.7:
        k = rng.randrange(len(value) + 1)
        return rng.choice((value[:k] + value[k + 1:], value[:k] + rng.choice("() ,:-01a\n") + value[k:], [value],
                           value + value, value.upper()))
    return rng.choice(others)


class Any_values(unittest.TestCase):
    def others(self):
        raised = [errors.Thin((0,)), errors.NoName(benches.Bench()), errors.BadLog(0)]
        return list(ODD_VALUES) + raised + [benches.Bench(), BENCH.copy(), shells.Shell(), BENCH.shelf, BENCH.log, TERM,
                                            EDITS]

    def check(self, call, value):
        """Check that a call of a value, twice, comes to the same, and changes nothing."""
        shown = repr(value)
        first = outcome(call, value)
        self.assertEqual(outcome(call, value), first)
        self.assertEqual(repr(value), shown)

    def test_values_of_all_kinds(self):
        for call, _ in CALLS:
            for value in self.others():
                self.check(call, value)

    def test_right_ones_with_parts_changed(self):
        rng = random.Random(420)
        others = self.others()
        told = {}
        for number, (call, rights) in enumerate(CALLS):
            for right in rights:
                fine = outcome(call, right)
                self.assertEqual(outcome(call, copy.deepcopy(right)), fine)
                for _ in range(60):
                    value = changed(rng, right, others)
                    if rng.random() < 0.3:
                        value = changed(rng, value, others)
                    self.check(call, value)
                    told.setdefault(number, set()).add(outcome(call, value) == fine)
        self.assertTrue(all(False in found for found in told.values()))

    def test_true_is_not_1(self):
        for call, rights in CALLS:
            for right in rights:
                for value in with_bools(right):
                    self.assertNotEqual(outcome(call, value), outcome(call, right), value)


def with_bools(value):
    """Return the value with each 0 and each 1 in it exchanged for a bool, one at a time."""
    if isinstance(value, tuple):
        return [value[:k] + (one,) + value[k + 1:] for k in range(len(value)) for one in with_bools(value[k])]
    return [bool(value)] if type(value) is int and value in (0, 1) else []


if __name__ == "__main__":
    unittest.main()
