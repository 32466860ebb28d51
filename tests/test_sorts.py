"""[A3], [G5], [H1] to [H4]: three sorts of ties, and webs with a tie left out or pinched."""

import itertools
import random
import unittest

from botheven.errors import Held, Unfit
from botheven.evens import lot_base, lot_many
from botheven.sorts import left_out, pinched, sort_of, sort_paper, sort_paper_holds
from botheven.splits import split
from botheven.trees import tree_count
from botheven.webs import web_error
from tests.oracles import ALONE, DOUBLED, KITE, ODD_VALUES, ROW, SQUARE, TAIL, TRIANGLE, TRIPLE, WIDE
from tests.oracles import all_cuts, all_lots_of, bent_webs, caught, check_call, even, even_lots, joined, large_webs
from tests.oracles import some_webs, thick_webs

TWINS = (3, ((0, 2), (0, 2), (1, 2), (1, 2), (0, 1)))


def papers_of(web, tie):
    """Return all papers of the tie, by a search through all cuts and all even lots."""
    cuts, evens = set(all_cuts(web)), set(even_lots(web))
    found = []
    for lot in [lot for lot in all_lots_of(web) if tie in lot]:
        rest = tuple(other for other in lot if other != tie)
        if lot in cuts and lot in evens:
            found.append(("both", lot))
        if lot in cuts and rest in evens:
            found.append(("cut", lot))
        if lot in evens and rest in cuts:
            found.append(("round", lot))
    return found


def small_webs():
    return [web for web in some_webs()[::2] + bent_webs() + [TWINS] if 0 < len(web[1]) < 9]


def webs_with_ties():
    return [web for web in some_webs() + bent_webs() + thick_webs() + large_webs() + [TWINS] if web[1]]


class Sorts(unittest.TestCase):
    def test_held_against_all_cuts_and_all_even_lots(self):
        found = set()
        for web in small_webs():
            for tie in range(len(web[1])):
                papers = papers_of(web, tie)
                words = {word for word, _ in papers}
                self.assertEqual(words, {sort_of(web, tie)})
                self.assertIn(sort_paper(web, tie), papers)
                found |= words
                for lot in all_lots_of(web):
                    for word in ("both", "cut", "round"):
                        told = (word, lot) in papers
                        self.assertIs(sort_paper_holds(web, tie, (word, lot)), told)
        self.assertEqual(found, {"both", "cut", "round"})

    def test_great_webs(self):
        for web in large_webs() + thick_webs()[-8:]:
            cuts = all_cuts(web)
            held = {tie for lot in lot_base(web) for tie in lot}
            for tie in range(len(web[1])):
                word, lot = sort_paper(web, tie)
                self.assertEqual(sort_of(web, tie), word)
                self.assertEqual(word == "both", tie in held)
                rest = tuple(other for other in lot if other != tie)
                self.assertIn(tie, lot)
                self.assertEqual((lot in cuts, even(web, lot)), (word != "round", word != "cut"))
                self.assertTrue(word != "cut" or even(web, rest))
                self.assertTrue(word != "round" or rest in cuts)
                for other in ("both", "cut", "round"):
                    self.assertIs(sort_paper_holds(web, tie, (other, lot)), other == word)
                    self.assertIs(sort_paper_holds(web, tie, (other, rest)), False)

    def test_any_value(self):
        lot = (0, 1, 4)
        self.assertIs(sort_paper_holds(KITE, 4, ("round", lot)), True)
        wrong = [(word, what) for word in ("both", "cut", "round") for what in ODD_VALUES] + list(ODD_VALUES)
        wrong += [
            ["round", lot], ("round", list(lot)), ("round", lot, 0), ("round",), ("Round", lot), ("rounds", lot), lot,
            (lot, "round"), ("round", (4, 1, 0)), ("round", (False, 1, 4)), ("round", (0, True, 4)), ([], lot),
            ("round", (0, 1)), ("round", (0, 1, 2, 3)), ("cut", lot), ("both", lot), ("both", (0, 1, 2, 3)), ({}, lot),
            ("round", (0, 1, 4, 4)), ("round", (0, 1, 5)), ("round", ("0", 1, 4)), ("round", (0, 1, 4, None)),
            (None, lot), (True, lot),
        ]
        for value in wrong:
            self.assertIs(sort_paper_holds(KITE, 4, value), False)
            check_call(self, sort_paper_holds, {"web": KITE, "tie": 4, "value": value})
        self.assertIs(sort_paper_holds(TWINS, 4, ("cut", (False, 1, 4))), False)
        self.assertIs(sort_paper_holds(SQUARE, 0, ("both", (False, 1, 2, 3))), False)
        self.assertIs(sort_paper_holds(SQUARE, 1, ("both", (0, True, 2, 3))), False)
        for value in ODD_VALUES:
            right = repr(value) in ("(0,)",)
            self.assertIs(sort_paper_holds((2, ((0, 1),)), 0, ("cut", value)), right)

    def test_bridges_are_of_the_sort_cut(self):
        for web in webs_with_ties():
            for tie in range(len(web[1])):
                if not joined((web[0], web[1][:tie] + web[1][tie + 1:])):
                    self.assertEqual(sort_of(web, tie), "cut")
                    self.assertIs(sort_paper_holds(web, tie, ("cut", (tie,))), True)

    def test_what_split_tells(self):
        for web in small_webs() + large_webs():
            for tie in range(len(web[1])):
                word = sort_of(web, tie)
                if word == "both":
                    held = caught(self, Held, split, web, (tie,)).held
                    self.assertIs(sort_paper_holds(web, tie, ("both", held)), True)
                    continue
                cut, evened = split(web, (tie,))
                self.assertEqual((tie in cut, tie in evened), (word == "cut", word == "round"))
                self.assertIs(sort_paper_holds(web, tie, (word, cut if word == "cut" else evened)), True)

    def test_calls(self):
        for web in (KITE, TWINS, TAIL, DOUBLED):
            for tie in range(len(web[1])):
                check_call(self, sort_of, {"web": web, "tie": tie})
                check_call(self, sort_paper, {"web": web, "tie": tie})


def out_by_hand(web, tie):
    return (web[0], tuple(ends for k, ends in enumerate(web[1]) if k != tie))


def pinched_by_hand(web, tie):
    """Return the web that is told, tie by tie."""
    lesser, greater = web[1][tie]
    found = []
    for k, (one, other) in enumerate(web[1]):
        if k != tie:
            ends = [lesser if place == greater else place for place in (one, other)]
            found.append(tuple(sorted(place - 1 if place > greater else place for place in ends)))
    return (web[0] - 1, tuple(found))


class Webs(unittest.TestCase):
    def test_left_out(self):
        found = set()
        for web in webs_with_ties():
            for tie in range(len(web[1])):
                told = out_by_hand(web, tie)
                found.add(joined(told))
                if joined(told):
                    self.assertEqual(left_out(web, tie), told)
                    self.assertIsNone(web_error(told))
                else:
                    caught(self, Unfit, left_out, web, tie)
                check_call(self, left_out, {"web": web, "tie": tie})
        self.assertEqual(found, {True, False})

    def test_pinched(self):
        found = set()
        for web in webs_with_ties():
            for tie in range(len(web[1])):
                alone = web[1].count(web[1][tie]) == 1
                found.add((alone, web[1][tie][1] == web[0] - 1))
                if alone:
                    told = pinched(web, tie)
                    self.assertEqual(told, pinched_by_hand(web, tie))
                    self.assertIsNone(web_error(told))
                else:
                    caught(self, Unfit, pinched, web, tie)
                check_call(self, pinched, {"web": web, "tie": tie})
        self.assertEqual(len(found), 4)

    def test_ends_at_the_last_place(self):
        self.assertEqual(pinched(TRIANGLE, 2), (2, ((0, 1), (0, 1))))
        self.assertEqual(pinched(TRIANGLE, 0), (2, ((0, 1), (0, 1))))
        self.assertEqual(pinched((2, ((0, 1),)), 0), ALONE)
        self.assertEqual(pinched(ROW, 10), (11, ROW[1][:10]))
        self.assertEqual(pinched(ROW, 0), (11, ROW[1][:10]))
        self.assertEqual(pinched((4, ((0, 3), (1, 3), (2, 3), (0, 1))), 0), (3, ((0, 1), (0, 2), (0, 1))))
        self.assertEqual(left_out((4, ((0, 3), (1, 3), (2, 3), (0, 1))), 0), (4, ((1, 3), (2, 3), (0, 1))))

    def test_unfit(self):
        caught(self, Unfit, left_out, (2, ((0, 1),)), 0)
        caught(self, Unfit, left_out, web=TAIL, tie=5)
        caught(self, Unfit, pinched, web=TRIPLE, tie=2)
        caught(self, Unfit, pinched, DOUBLED, 11)
        self.assertEqual(left_out(TRIPLE, 1), (2, ((0, 1), (0, 1))))
        self.assertEqual(left_out(WIDE, 39), (12, WIDE[1][:39]))


class Holds(unittest.TestCase):
    def webs_of(self, web, tie):
        """Return the web with the tie left out, and pinched; None where there is none."""
        found = []
        for call in (left_out, pinched):
            try:
                found.append(call(web, tie))
            except Unfit:
                found.append(None)
        return found

    def test_how_many_lots_by_the_sort(self):
        told = {"both": (-1, -1), "cut": (1, 0), "round": (0, 1)}
        for web in webs_with_ties():
            for tie in range(len(web[1])):
                for other, more in zip(self.webs_of(web, tie), told[sort_of(web, tie)]):
                    if other is not None:
                        self.assertEqual(lot_many(other), lot_many(web) + more)

    def test_trees_of_both_add_up(self):
        many = 0
        for web in webs_with_ties():
            for tie in range(len(web[1])):
                out, one = self.webs_of(web, tie)
                if out is None or one is None:
                    continue
                many += 1
                self.assertEqual(tree_count(out) + tree_count(one), tree_count(web))
                if lot_many(web) == 0:
                    self.assertEqual(sorted([lot_many(out) == 0, lot_many(one) == 0]), [False, True])
        self.assertGreater(many, 500)

    def test_papers_stay_with_ties_in_another_order(self):
        rng = random.Random(230)
        for web in small_webs():
            order = list(range(len(web[1])))
            rng.shuffle(order)
            other = (web[0], tuple(web[1][tie] for tie in order))
            self.assertEqual([sort_of(other, k) for k in range(len(order))], [sort_of(web, tie) for tie in order])

    def test_all_ties_of_the_base_are_both(self):
        for web in webs_with_ties():
            held = set(itertools.chain(*lot_base(web)))
            self.assertEqual({tie for tie in range(len(web[1])) if sort_of(web, tie) == "both"}, held)


if __name__ == "__main__":
    unittest.main()
