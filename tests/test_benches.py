"""[A2] (g), [A3], [L1] to [L5]: benches, their edits, and edits that are taken back."""

import copy
import random
import unittest

from botheven import errors
from botheven.benches import Bench
from botheven.deeds import done
from botheven.errors import Apart, BadBatch, BadStanding, BadWeb, BothError, NoName, NothingToRedo, NothingToUndo, NoTie
from botheven.errors import NoVersion, Rejected, Sloped, Taken, Thin, TooMany, TooManyEdits, Unfit
from botheven.evens import lot_base
from botheven.joining import joined_by
from botheven.marks import led_by
from botheven.standings import standing_error
from botheven.webs import web_error
from botheven.webtexts import read_web
from tests.oracles import ALONE, FAT, FULL, KITE, ODD_VALUES, SQUARE, TAIL, TRIANGLE, TRIO, TRIPLE, WIDE
from tests.oracles import caught, nested, outcome
from tests.slowbench import COUNTS, SlowBench, some_edit

TWO, LONE = (2, ((0, 1), (0, 1))), (2, ((0, 1),))
FAR = 10 ** 12


def any_values():
    """Return values of all kinds, benches and errors that hold such among them."""
    full = some_bench()
    return ODD_VALUES + (Bench(), full, (full,), [full], {"a": full}, full.shelf, full.log, NoName(full),
                         (Bench(), 0, 1))


def some_bench():
    """Return a bench with four edits that stand and two that were taken back."""
    b = Bench()
    b.add("four", FAT, (1, 0, 0, 0))
    b.add("tri", TRIANGLE, (0, 0, 0))
    b.do("tri", (("star", 0, 2),))
    b.tie("four", 0, 1, 9)
    b.drop("tri")
    b.add("kite", KITE, (0,) * 5)
    b.undo()
    b.undo()
    return b


def state(b):
    """Return all that a bench tells, with what can be done again."""
    other, redone = b.copy(), []
    while True:
        try:
            redone.append((other.redo(), other.shelf, other.log))
        except NothingToRedo:
            break
    rows = [b.at(version) for version in range(b.version + 1)]
    return b.shelf, b.version, b.log, list(b), len(b), [b[name] for name in b], rows, redone


def full_bench():
    """Return a bench on which 40 edits stand."""
    b = Bench()
    b.add("four", FAT, (0, 0, 0, 0))
    for times in range(1, 40):
        b.do("four", (("star", 0, 1),))
    return b


class Shelf(unittest.TestCase):
    def test_at_first(self):
        b = Bench()
        self.assertEqual((b.shelf, b.version, b.log, b.made, len(b), list(b)), ((), 0, (), 0, 0, []))
        self.assertEqual(b.at(0), ())

    def test_properties_can_only_be_read(self):
        b = some_bench()
        for name in ("shelf", "version", "log", "made"):
            self.assertIsInstance(getattr(Bench, name), property)
            kept = getattr(b, name)
            with self.assertRaises(AttributeError):
                setattr(b, name, kept)
            with self.assertRaises(AttributeError):
                delattr(b, name)
            self.assertEqual(getattr(b, name), kept)

    def test_names_are_in_order(self):
        b = Bench()
        for name in ("m", "zz", "a", "mm", "b", "ab"):
            b.add(name, ALONE, ())
        self.assertEqual(list(b), ["a", "ab", "b", "m", "mm", "zz"])
        self.assertEqual([name for name in b], sorted(b))
        self.assertEqual([row[0] for row in b.shelf], list(b))
        self.assertEqual(len(b), 6)
        b.drop("b")
        self.assertEqual((list(b), len(b)), (["a", "ab", "m", "mm", "zz"], 5))

    def test_getitem(self):
        b = some_bench()
        self.assertEqual(b["tri"], (TRIANGLE, (2, 2, 0)))
        self.assertIs(type(b["tri"]), tuple)
        for value in any_values() + ("four ", "fou", "FOUR"):
            error = caught(self, NoName, b.__getitem__, value)
            self.assertIs(error.given, value)
            with self.assertRaises(NoName):
                b[value]

    def test_shelf_is_ascending_triples(self):
        b = some_bench()
        self.assertEqual(b.shelf, (("four", (2, ((0, 1),) * 5), (1, 0, 0, 0, 9)), ("tri", TRIANGLE, (2, 2, 0))))

    def test_equal(self):
        one, other = some_bench(), Bench()
        other.add("tri", TRIANGLE, (2, 2, 0))
        self.assertFalse(one == other)
        self.assertTrue(one != other)
        other.add("four", (2, ((0, 1),) * 5), (1, 0, 0, 0, 9))
        self.assertTrue(one == other)
        self.assertFalse(one != other)
        self.assertTrue(Bench() == Bench())
        other.stand("tri", (2, 2, 1))
        self.assertTrue(one != other)

    def test_a_bench_equals_nothing_else(self):
        class Anything:
            def __eq__(self, other):
                return True

        b = some_bench()
        for value in ODD_VALUES + (b.shelf, b.log, list(b), Anything(), (b,), Bench):
            self.assertIs(b == value, False)
            self.assertIs(b != value, True)
        self.assertFalse(Bench() == ())
        self.assertTrue(() != Bench())

    def test_what_is_returned_does_not_change_later(self):
        b = some_bench()
        kept = [b.shelf, b.log, b["tri"], b.at(1), b.base("tri"), iter(b)]
        shown = repr(kept[:5])
        b.do("tri", (("star", 1, 1),))
        b.drop("four")
        b.undo()
        self.assertEqual(repr(kept[:5]), shown)
        self.assertEqual(list(kept[5]), ["four", "tri"])


class Search(unittest.TestCase):
    def test_equal_webs_under_several_names(self):
        b = Bench()
        b.add("c", FAT, (1, 0, 0, 0))
        b.add("a", FAT, (0, 0, 0, 5))
        b.add("b", FAT, (1, 1, 0, 0))
        b.add("other", (2, ((0, 1),) * 3), (1, 0, 0))
        self.assertEqual(b.search(FAT, (0, 3, 0, 0)), ("a", "c"))
        self.assertEqual(b.search(FAT, (0, 0, 0, 0)), ("b",))
        self.assertEqual(b.search(TRIPLE, (7, 0, 0)), ("other",))
        self.assertEqual(b.search(web=LONE, standing=(0,)), ())
        self.assertEqual(Bench().search(KITE, (0,) * 5), ())

    def test_the_same_ties_in_another_order(self):
        b = Bench()
        b.add("tri", TRIANGLE, (0, 0, 0))
        self.assertEqual(b.search(TRIANGLE, (5, -1, 3)), ("tri",))
        self.assertEqual(b.search((3, ((0, 2), (0, 1), (1, 2))), (0, 0, 0)), ())

    def test_webs_that_are_not_thick(self):
        b = Bench()
        b.add("kite", KITE, (0,) * 5)
        b.add("tail", TAIL, (1,) * 6)
        b.add("two", TWO, (3, 1))
        self.assertEqual(b.search(KITE, (0, 0, 0, 0, 7)), ("kite",))
        self.assertEqual(b.search(KITE, (1, 0, 0, 0, 7)), ())
        self.assertEqual(b.search(KITE, (1, 1, 0, 0, 0)), ("kite",))
        self.assertEqual(b.search(TAIL, (2, 0, 1, 3, 0, -4)), ("tail",))
        self.assertEqual((b.search(TWO, (2, 0)), b.search(TWO, (3, 3))), (("two",), ()))

    def test_held_against_led_by(self):
        rng = random.Random(310)
        found = set()
        for web in (FAT, KITE, TAIL, TRIO, TRIPLE, SQUARE, FULL, ALONE):
            b = Bench()
            for name in "abcdef":
                b.add(name, web, tuple(rng.randint(-2, 2) for _ in web[1]))
            for _ in range(15):
                standing = tuple(rng.randint(-2, 2) for _ in web[1])
                led = tuple(name for name in b if self.leads(web, b[name][1], standing))
                found.add(len(led) > 0)
                self.assertEqual(b.search(web, standing), led)
        self.assertEqual(found, {True, False})

    def leads(self, web, one, other):
        try:
            return done(web, one, led_by(web, one, other)) == other
        except (Sloped, Apart):
            return False

    def test_errors(self):
        b = some_bench()
        before = state(b)
        for web in any_values():
            if web_error(web) is not None:
                for standing in ((0,), None, (0, 0, 0, 0)):
                    self.assertEqual(caught(self, BadWeb, b.search, web, standing).error, web_error(web))
        for standing in any_values():
            told = standing_error(TRIANGLE, standing)
            self.assertEqual(caught(self, BadStanding, b.search, TRIANGLE, standing).error, told)
        self.assertEqual(caught(self, BadStanding, b.search, TWO, (0, FAR + 1)).error, ("item", 1))
        self.assertEqual(caught(self, BadStanding, b.search, TWO, standing=(True, 0)).error, ("item", 0))
        self.assertEqual(b.search(TWO, (0, FAR)), ())
        self.assertEqual(state(b), before)


class Edits(unittest.TestCase):
    def refuse(self, b, kind, call, *args):
        """Check that a call raises an error of this kind and changes nothing; return what the error keeps."""
        before = state(b)
        error = caught(self, kind, call, *args)
        self.assertEqual(state(b), before)
        return list(vars(error).values())[0] if vars(error) else None

    def test_add(self):
        b = Bench()
        self.assertEqual(b.add("four", FAT, (1, 0, 0, -FAR)), 1)
        self.assertEqual(b.add(name="a", web=ALONE, standing=()), 2)
        self.assertEqual(b.add("abcdefgh", LONE, (FAR,)), 3)
        self.assertEqual(b.log[1:], (("add", "a", ALONE, ()), ("add", "abcdefgh", LONE, (FAR,))))

    def test_add_errors_in_their_order(self):
        b = some_bench()
        for name in [value for value in any_values() if value != "star"] + ["abcdefghi", "a1", "a_b", "A", "a ", "\n",
                                                                            "-"]:
            self.refuse(b, Unfit, b.add, name, FAT, (0,) * 4)
            self.refuse(b, Unfit, b.add, name, None, 7)
        for web in any_values():
            if web_error(web) is not None:
                self.assertEqual(self.refuse(b, BadWeb, b.add, "new", web, ()), web_error(web))
                self.assertEqual(self.refuse(b, BadWeb, b.add, "four", web, None), web_error(web))
        for standing in any_values():
            told = standing_error(TRIANGLE, standing)
            self.assertEqual(self.refuse(b, BadStanding, b.add, "new", TRIANGLE, standing), told)
        self.assertEqual(self.refuse(b, BadStanding, b.add, "four", LONE, (FAR + 1,)), ("item", 0))
        self.assertEqual(self.refuse(b, BadStanding, b.add, "new", TWO, (0, True)), ("item", 1))
        self.assertEqual(self.refuse(b, Taken, b.add, "four", ALONE, ()), "four")
        self.assertEqual(self.refuse(b, Taken, b.add, "tri", TRIANGLE, (2, 2, 0)), "tri")

    def test_a_seventh_name(self):
        b = Bench()
        for name in "abcdef":
            b.add(name, ALONE, ())
        self.assertEqual(self.refuse(b, TooMany, b.add, "g", ALONE, ()), 6)
        self.assertEqual(self.refuse(b, Taken, b.add, "c", ALONE, ()), "c")
        self.assertEqual(self.refuse(b, BadStanding, b.add, "g", ALONE, (0,)), "form")
        b.drop("c")
        self.assertEqual(b.add("g", ALONE, ()), 8)

    def test_no_name_ahead_of_all(self):
        b = some_bench()
        for value in any_values():
            for call, args in ((b.drop, ()), (b.tie, (None, True, "x")), (b.untie, (99,)), (b.pinch, (None,)),
                               (b.stand, ([],)), (b.do, (7,)), (b.base, ())):
                before = state(b)
                self.assertIs(caught(self, NoName, call, value, *args).given, value)
                self.assertEqual(state(b)[:3], before[:3])
        self.assertEqual(self.refuse(b, NoName, b.drop, "kite"), "kite")
        b = full_bench()
        self.assertEqual(self.refuse(b, NoName, b.drop, "kite"), "kite")

    def test_drop(self):
        b = some_bench()
        self.assertEqual((b.drop(name="four"), list(b), b.log[-1]), (5, ["tri"], ("drop", "four")))

    def test_tie(self):
        b = some_bench()
        self.assertEqual(b.tie("tri", 0, 1, -FAR), 5)
        self.assertEqual(b["tri"], ((3, TRIANGLE[1] + ((0, 1),)), (2, 2, 0, -FAR)))
        self.assertEqual(b.tie(name="tri", one=1, other=2, number=FAR), 6)
        self.assertEqual(b["tri"][0][1][3:], ((0, 1), (1, 2)))

    def test_tie_errors(self):
        b = some_bench()
        for one, other in ((1, 0), (0, 0), (0, 3), (-1, 1), (True, 2), (0, "1"), (None, None), ([], {}), (Bench(), 1)):
            self.assertEqual(self.refuse(b, BadWeb, b.tie, "tri", one, other, 0), ("tie", 3))
            self.assertEqual(self.refuse(b, BadWeb, b.tie, "tri", one, other, None), ("tie", 3))
        for number in [value for value in any_values() if type(value) is not int] + [FAR + 1, -FAR - 1, 10 ** 399]:
            self.assertEqual(self.refuse(b, BadStanding, b.tie, "tri", 0, 1, number), ("item", 3))
        for value in any_values():
            if not (type(value) is int and value in (1, 2)):
                self.assertEqual(self.refuse(b, BadWeb, b.tie, "tri", 0, value, 0), ("tie", 3))
        b.add("wide", WIDE, (0,) * 40)
        self.assertEqual(self.refuse(b, BadWeb, b.tie, "wide", 0, 1, 0), "form")
        b.untie("wide", 39)
        b.tie("wide", 0, 1, 0)
        self.assertEqual(len(b["wide"][0][1]), 40)
        self.assertEqual(self.refuse(b, BadWeb, b.tie, "wide", 0, 1, None), "form")

    def test_untie(self):
        b = Bench()
        b.add("tail", TAIL, (1, 2, 3, 4, 5, 6))
        self.assertEqual((b.untie("tail", 1), b["tail"]), (2, ((5, TAIL[1][:1] + TAIL[1][2:]), (1, 3, 4, 5, 6))))
        self.assertEqual(b.untie(place=3, name="tail"), 3)
        self.assertEqual(b["tail"], ((5, ((0, 1), (2, 3), (0, 3), (3, 4))), (1, 3, 4, 6)))
        for place in range(4):
            self.assertEqual(self.refuse(b, BadWeb, b.untie, "tail", place), "apart")

    def test_pinch(self):
        b = Bench()
        b.add("kite", KITE, (1, 2, 3, 4, 5))
        self.assertEqual((b.pinch("kite", 4), b["kite"]), (2, ((3, ((0, 1), (0, 1), (0, 2), (0, 2))), (1, 2, 3, 4))))
        for place in range(4):
            self.refuse(b, Unfit, b.pinch, "kite", place)
        b.undo()
        self.assertEqual((b.pinch(name="kite", place=0), b["kite"][1]), (2, (2, 3, 4, 5)))
        b.add("lone", LONE, (7,))
        self.assertEqual((b.pinch("lone", 0), b["lone"]), (4, (ALONE, ())))
        self.assertEqual(self.refuse(b, NoTie, b.pinch, "lone", 0), 0)

    def test_no_tie(self):
        b = some_bench()
        for value in any_values() + (3, 40):
            if not (type(value) is int and 0 <= value < 3):
                for call in (b.untie, b.pinch):
                    before = state(b)
                    self.assertIs(caught(self, NoTie, call, "tri", value).given, value)
                    self.assertEqual(state(b), before)

    def test_stand(self):
        b = some_bench()
        self.assertEqual((b.stand("tri", (FAR, -FAR, 0)), b["tri"]), (5, (TRIANGLE, (FAR, -FAR, 0))))
        self.assertEqual((b.stand(standing=(1, 2, 3), name="tri"), b["tri"][1]), (6, (1, 2, 3)))
        for standing in any_values():
            told = standing_error(TRIANGLE, standing)
            self.assertEqual(self.refuse(b, BadStanding, b.stand, "tri", standing), told)
        for k, standing in enumerate(((FAR + 1, 0, 0), (0, -FAR - 1, None), (0, 0, True))):
            self.assertEqual(self.refuse(b, BadStanding, b.stand, "tri", standing), ("item", k))

    def test_do(self):
        b = some_bench()
        self.assertEqual((b.do("four", (("star", 0, 1), ("round", (0, 4), -1))), b["four"][1]), (5, (1, 1, 1, 1, 9)))
        self.assertEqual((b.do(name="four", deeds=()), b["four"][1]), (6, (1, 1, 1, 1, 9)))
        far = (("star", 0, 10 ** 30), ("star", 0, -10 ** 30))
        self.assertEqual((b.do("four", far), b["four"][1], b.log[-1]), (7, (1, 1, 1, 1, 9), ("do", "four", far)))
        for value in any_values():
            if value != ():
                self.refuse(b, Unfit, b.do, "four", value)
        for deed in any_values():
            if not (type(deed) is tuple and deed[:2] == ("star", 0)):
                self.refuse(b, Unfit, b.do, "four", (("star", 0, 1), deed))
        for deed in (("star", 2, 1), ("star", 0, 0), ("round", (0, 1, 2), 1), ("round", (1, 0), 1), ["star", 0, 1]):
            self.refuse(b, Unfit, b.do, "four", (deed,))
        self.refuse(b, Unfit, b.do, "four", [("star", 0, 1)])
        self.refuse(b, Unfit, b.do, "four", (("star", 0, FAR), ("star", 0, 0)))

    def test_do_at_the_bounds(self):
        b = Bench()
        b.add("two", TWO, (0, -5))
        self.assertEqual(self.refuse(b, BadStanding, b.do, "two", (("star", 0, FAR + 6),)), ("item", 0))
        self.assertEqual(self.refuse(b, BadStanding, b.do, "two", (("star", 0, -FAR + 4),)), ("item", 1))
        self.assertEqual(b.do("two", (("star", 0, FAR),)), 2)
        self.assertEqual(b.do("two", (("star", 1, -2 * FAR + 5),)), 3)
        self.assertEqual(b["two"][1], (-FAR + 5, -FAR))
        self.assertEqual(self.refuse(b, BadStanding, b.do, "two", (("round", (0, 1), -1),)), ("item", 1))

    def test_what_leaves_the_shelf_as_it_was_is_an_edit_too(self):
        b = some_bench()
        before = b.shelf
        for call, args in ((b.do, ("tri", ())), (b.stand, ("tri", (2, 2, 0))), (b.batch, ((),)),
                           (b.batch, ((("do", "tri", ()),),))):
            version = b.version
            self.assertEqual(call(*args), version + 1)
            self.assertEqual((b.shelf, b.log[-1][1:]), (before, args))
        caught(self, NothingToRedo, b.redo)


class Batches(unittest.TestCase):
    def test_as_one_edit(self):
        b = some_bench()
        edits = (("add", "x", KITE, (0,) * 5), ("tie", "x", 1, 3, 4), ("drop", "four"), ("untie", "x", 0),
                 ("pinch", "x", 0), ("stand", "tri", (9, 9, 9)), ("do", "tri", (("star", 0, 1),)))
        self.assertEqual(b.batch(edits), 5)
        self.assertEqual((list(b), b["tri"][1], b["x"][1]), (["tri", "x"], (10, 10, 9), (0, 0, 0, 4)))
        self.assertEqual((b.log[-1], b.version), (("batch", edits), 5))
        self.assertEqual((b.undo(), list(b), b.redo(), list(b)), (4, ["four", "tri"], 5, ["tri", "x"]))
        self.assertEqual(b.batch(edits=()), 6)

    def test_of_12_and_of_13(self):
        b = some_bench()
        part = ("do", "tri", (("star", 0, 1),))
        self.assertEqual(b.batch((part,) * 12), 5)
        self.assertEqual(b["tri"][1], (14, 14, 0))
        before = state(b)
        caught(self, BadBatch, b.batch, (part,) * 13)
        caught(self, BadBatch, b.batch, (part,) * 12 + (("drop", "nobody"),))
        self.assertEqual(state(b), before)

    def test_bad_batch(self):
        b = some_bench()
        before = state(b)
        good = ("drop", "tri")
        parts = [value for value in any_values()] + [
            ("drop",), ("drop", "tri", 1), ("Drop", "tri"), ["drop", "tri"], ("batch", ()), ("undo",), ("redo",),
            ("base", "tri"), ("copy",), ("add", "x", ALONE), ("tie", "tri", 0, 1), ("do", "tri"), ("stand", "tri"),
            ("untie", "tri"), ("pinch", "tri", 0, 0), (("drop",), "tri"), (None, "tri"), (True,), ("attempt", len),
            ("drop", "tri") * 2, ("__init__",), ("edit", good), "drop",
        ]
        for part in parts:
            caught(self, BadBatch, b.batch, (good, part))
            caught(self, BadBatch, b.batch, (part,))
            caught(self, BadBatch, b.batch, edits=(("drop", "nobody"), part))
        for edits in any_values() + ([good], {good: 1}, "drop", good, (good, [])):
            if edits not in ((), b.log):
                caught(self, BadBatch, b.batch, edits)
        self.assertEqual(state(b), before)

    def test_rejected(self):
        b = some_bench()
        before = state(b)
        good = ("do", "tri", ())
        bad = [("add", "X", ALONE, ()), ("add", "x", None, ()), ("add", "x", ALONE, 0), ("add", "tri", ALONE, ()),
               ("drop", "x"), ("drop", Bench()), ("tie", "tri", 1, 1, 0), ("tie", "tri", 0, 1, None),
               ("untie", "tri", 3),
               ("pinch", "tri", None), ("stand", "tri", ()), ("do", "tri", []), ("do", "tri", (("star", 0, FAR),)),
               ("do", {}, ())]
        for part in bad:
            for k in (0, 1, 11):
                edits = (good,) * k + (part,) + (good,) * (11 - k)
                self.assertEqual(caught(self, Rejected, b.batch, edits).index, k)
        self.assertEqual(caught(self, Rejected, b.batch, tuple(bad[:12])).index, 0)
        self.assertEqual(state(b), before)
        self.assertEqual(b.redo(), 5)

    def test_parts_see_what_those_ahead_did(self):
        b = Bench()
        self.assertEqual(caught(self, Rejected, b.batch, (("add", "a", ALONE, ()), ("add", "a", ALONE, ()))).index, 1)
        b.batch((("add", "a", ALONE, ()), ("drop", "a"), ("add", "a", LONE, (4,)), ("do", "a", (("star", 1, 1),))))
        self.assertEqual(b["a"], (LONE, (5,)))
        seven = tuple(("add", name, ALONE, ()) for name in "bcdefgh")
        self.assertEqual(caught(self, Rejected, b.batch, seven).index, 5)


class Forty(unittest.TestCase):
    def test_too_many_edits_behind_all_others(self):
        b = full_bench()
        before = state(b)
        self.assertEqual(b.version, 40)
        for call, args in ((b.add, ("x", ALONE, ())), (b.drop, ("four",)), (b.tie, ("four", 0, 1, 0)),
                           (b.untie, ("four", 0)), (b.stand, ("four", (0,) * 4)), (b.do, ("four", ())),
                           (b.batch, ((),)), (b.batch, ((("drop", "four"),),))):
            caught(self, TooManyEdits, call, *args)
        for kind, call, args in ((Unfit, b.add, ("X", ALONE, ())), (Taken, b.add, ("four", ALONE, ())),
                                 (BadWeb, b.tie, ("four", 1, 0, 0)), (NoTie, b.untie, ("four", 4)),
                                 (Unfit, b.pinch, ("four", 0)), (BadStanding, b.stand, ("four", ())),
                                 (Unfit, b.do, ("four", None)), (BadBatch, b.batch, (None,)),
                                 (Rejected, b.batch, ((("drop", "x"),),)), (NoName, b.drop, ("x",))):
            caught(self, kind, call, *args)
        self.assertEqual(state(b), before)

    def test_pinch_too(self):
        b = Bench()
        b.add("kite", KITE, (0,) * 5)
        for _ in range(39):
            b.stand("kite", (0,) * 5)
        caught(self, TooManyEdits, b.pinch, "kite", 0)
        caught(self, NoTie, b.pinch, "kite", 5)

    def test_taken_back_and_done_again(self):
        b = full_bench()
        self.assertEqual((b.undo(), b.redo()), (39, 40))
        caught(self, NothingToRedo, b.redo)
        b.undo()
        self.assertEqual(b.drop("four"), 40)
        caught(self, TooManyEdits, b.add, "four", ALONE, ())
        for version in range(39, -1, -1):
            self.assertEqual(b.undo(), version)
        caught(self, NothingToUndo, b.undo)

    def test_a_batch_of_12_with_39_edits(self):
        b = full_bench()
        b.undo()
        self.assertEqual(b.batch((("do", "four", ()),) * 12), 40)
        caught(self, TooManyEdits, b.batch, ())


class Bases(unittest.TestCase):
    def test_made_once_for_equal_webs(self):
        b = Bench()
        b.add("a", FULL, (0,) * 6)
        b.add("b", FULL, (1,) * 6)
        b.add("c", (4, FULL[1][::-1]), (0,) * 6)
        self.assertEqual((b.base("a"), b.made), (lot_base(FULL), 1))
        self.assertEqual((b.base("b"), b.made), (lot_base(FULL), 1))
        self.assertEqual((b.base(name="c"), b.made), (lot_base((4, FULL[1][::-1])), 2))
        self.assertEqual((b.base("c"), b.base("a"), b.made), (lot_base((4, FULL[1][::-1])), lot_base(FULL), 2))
        self.assertEqual((b.version, b.log[-1][0]), (3, "add"))

    def test_no_name(self):
        b = some_bench()
        b.base("four")
        for value in any_values():
            self.assertIs(caught(self, NoName, b.base, value).given, value)
        self.assertEqual(b.made, 1)

    def test_kept_whatever_is_edited_taken_back_or_raised(self):
        b = Bench()
        b.add("a", FAT, (0,) * 4)
        b.base("a")
        b.untie("a", 0)
        self.assertEqual((b.made, b.base("a"), b.made), (1, (), 2))
        b.undo()
        self.assertEqual((b.base("a"), b.made), (lot_base(FAT), 2))
        b.drop("a")
        caught(self, NoName, b.base, "a")
        self.assertEqual(b.made, 2)
        b.add("z", TRIPLE, (0,) * 3)
        self.assertEqual((b.base("z"), b.made), ((), 2))

        def work(bench):
            bench.add("k", KITE, (0,) * 5)
            bench.base("k")
            raise Unfit()

        caught(self, Unfit, b.attempt, work)
        self.assertEqual((b.made, list(b)), (3, ["z"]))
        b.add("k", KITE, (0,) * 5)
        self.assertEqual((b.base("k"), b.made), (lot_base(KITE), 3))

    def test_a_copy_has_what_was_made_and_goes_on_by_itself(self):
        b = some_bench()
        b.base("four")
        other = b.copy()
        self.assertEqual((other.made, other.base("four"), other.made), (1, b.base("four"), 1))
        other.base("tri")
        self.assertEqual((other.made, b.made), (2, 1))
        b.base("tri")
        b.add("lone", LONE, (0,))
        b.base("lone")
        self.assertEqual((other.made, b.made), (2, 3))

    def test_undo_and_redo_make_nothing(self):
        b = some_bench()
        b.search(TRIANGLE, (0, 0, 0))
        b.undo()
        b.redo()
        self.assertEqual((b.made, b["tri"][1], b.made), (0, (2, 2, 0), 0))


class Back(unittest.TestCase):
    def test_through_all_versions(self):
        rng = random.Random(311)
        for _ in range(20):
            b, slow = random_benches(rng, 30)
            shelves, log = [b.at(version) for version in range(b.version + 1)], b.log
            for version in range(b.version - 1, -1, -1):
                self.assertEqual((b.undo(), b.version, b.shelf, b.log),
                                 (version, version, shelves[version], log[:version]))
            caught(self, NothingToUndo, b.undo)
            for version in range(1, len(shelves)):
                self.assertEqual((b.redo(), b.version, b.shelf, b.log),
                                 (version, version, shelves[version], log[:version]))
            for _ in range(len(slow.taken)):
                b.redo()
            caught(self, NothingToRedo, b.redo)

    def test_an_edit_forgets_what_was_taken_back(self):
        b = some_bench()
        self.assertEqual(b.copy().redo(), 5)
        b.do("tri", ())
        caught(self, NothingToRedo, b.redo)
        b.undo()
        b.undo()
        caught(self, NoName, b.drop, "nobody")
        self.assertEqual((b.redo(), b.redo()), (4, 5))

    def test_at(self):
        b = some_bench()
        self.assertEqual((b.at(0), [row[0] for row in b.at(1)], b.at(4)), ((), ["four"], b.shelf))
        self.assertEqual(b.at(version=2)[1], ("tri", TRIANGLE, (0, 0, 0)))
        for value in any_values() + (5, 6, -1):
            if not (type(value) is int and 0 <= value <= 4):
                self.assertIs(caught(self, NoVersion, b.at, value).given, value)
        b.undo()
        self.assertEqual(caught(self, NoVersion, b.at, 4).given, 4)

    def test_copy(self):
        b = some_bench()
        other = b.copy()
        self.assertIs(type(other), Bench)
        self.assertIsNot(other, b)
        self.assertEqual(state(other), state(b))
        before = state(b)
        other.drop("four")
        other.undo()
        other.undo()
        self.assertEqual(state(b), before)
        kept = state(other)
        b.redo()
        b.redo()
        self.assertEqual((list(b), state(other)), (["four", "kite"], kept))


class Attempts(unittest.TestCase):
    def test_what_work_returns(self):
        b = some_bench()
        self.assertIs(b.attempt(lambda bench: bench), b)
        self.assertIsNone(b.attempt(lambda bench: None))
        self.assertEqual(b.attempt(work=lambda bench: bench.drop("tri")), 5)
        self.assertEqual(list(b), ["four"])
        caught(self, NothingToRedo, b.redo)
        self.assertIsInstance(b.attempt(lambda bench: Unfit()), Unfit)

    def test_errors_of_the_package(self):
        calls = [lambda bench: bench.drop("nobody"), lambda bench: Bench().undo(), lambda bench: read_web("x"),
                 lambda bench: joined_by(TWO, (0, 0), (0, 0)), lambda bench: bench.at(99), lambda bench: bench["x"],
                 lambda bench: bench.batch((("drop", "x"),)), lambda bench: bench.search(None, None)]
        kinds = [NoName, NothingToUndo, errors.BadText, Thin, NoVersion, NoName, Rejected, BadWeb]
        for call, kind in zip(calls, kinds):
            b = some_bench()
            before = state(b)

            def work(bench):
                bench.undo()
                bench.undo()
                bench.drop("four")
                bench.add("new", ALONE, ())
                return call(bench)

            caught(self, kind, b.attempt, work)
            self.assertEqual(state(b), before)
            self.assertEqual((b.redo(), b.redo()), (5, 6))

    def test_all_classes_of_errors(self):
        names = [name for name in dir(errors) if name[0].isupper()]
        for name in names:
            kind = getattr(errors, name)
            error = kind() if name in ("Unfit", "BadText", "BadBatch", "TooManyEdits", "NothingToUndo", "NothingToRedo",
                                       "BothError") else kind(0)

            def work(bench):
                bench.drop("four")
                raise error

            b = some_bench()
            before = state(b)
            with self.assertRaises(BothError) as held:
                b.attempt(work)
            self.assertIs(held.exception, error)
            self.assertEqual(state(b), before)

    def test_other_errors(self):
        for kind in (ValueError, KeyError, TypeError, ZeroDivisionError, StopIteration, KeyboardInterrupt):
            b = some_bench()

            def work(bench):
                bench.drop("four")
                raise kind("x")

            with self.assertRaises(kind):
                b.attempt(work)
            self.assertEqual((b.version, list(b)), (5, ["tri"]))
            caught(self, NothingToRedo, b.redo)

    def test_within_attempts(self):
        b = some_bench()

        def inner(bench):
            bench.drop("four")
            raise Unfit()

        def outer(bench):
            bench.stand("tri", (1, 1, 1))
            try:
                bench.attempt(inner)
            except Unfit:
                pass
            bench.stand("tri", (2, 3, 4))
            return bench.version

        self.assertEqual(b.attempt(outer), 6)
        self.assertEqual((list(b), b["tri"][1]), (["four", "tri"], (2, 3, 4)))

        def falls(bench):
            bench.attempt(lambda one: one.drop("four"))
            bench.attempt(inner)

        before = state(b)
        caught(self, NoName, b.attempt, falls)
        self.assertEqual(state(b), before)

    def test_errors_caught_further_in(self):
        b = some_bench()

        def work(bench):
            bench.drop("tri")
            try:
                bench.drop("tri")
            except NoName:
                return "caught"

        self.assertEqual((b.attempt(work), list(b), b.version), ("caught", ["four"], 5))

    def test_another_bench_keeps_what_was_done(self):
        b, other = some_bench(), Bench()

        def work(bench):
            other.add("x", ALONE, ())
            bench.drop("tri")
            other.drop("y")

        before = state(b)
        caught(self, NoName, b.attempt, work)
        self.assertEqual((state(b), list(other)), (before, ["x"]))

    def test_no_edit(self):
        b = Bench()
        b.attempt(lambda bench: bench.add("x", ALONE, ()))
        self.assertEqual((b.version, b.log), (1, (("add", "x", ALONE, ()),)))


def random_benches(rng, many):
    """Return a bench and a slow one on both of which the same was done."""
    b, slow = Bench(), SlowBench()
    for _ in range(many):
        edit = some_edit(rng, slow.tables[-1])
        outcome(getattr(b, edit[0]), *edit[1:])
        outcome(slow.edit, *edit)
        if rng.random() < 0.15:
            outcome(b.undo), outcome(slow.undo)
    return b, slow


class Random(unittest.TestCase):
    def test_held_against_the_slow_bench(self):
        rng = random.Random(312)
        words, raised = set(), set()
        for _ in range(60):
            b, slow = Bench(), SlowBench()
            for _ in range(rng.choice((10, 40, 120))):
                roll = rng.random()
                if roll < 0.8:
                    edit = some_edit(rng, slow.tables[-1])
                    came = outcome(getattr(b, edit[0]), *edit[1:])
                    self.assertEqual(came, outcome(slow.edit, *edit), edit)
                    words.add((edit[0], came.startswith("raises")))
                    raised.add(came.split()[1] if came.startswith("raises") else "")
                elif roll < 0.95:
                    for _ in range(rng.randint(1, 3)):
                        call = rng.choice(("undo", "redo"))
                        self.assertEqual(outcome(getattr(b, call)), outcome(getattr(slow, call)))
                else:
                    b, slow = b.copy(), slow.copy()
                self.assertEqual((b.shelf, b.version, b.log), (slow.shelf(), len(slow.edits), tuple(slow.edits)))
                self.assertEqual((list(b), len(b)), (sorted(slow.tables[-1]), len(slow.tables[-1])))
                version = rng.randint(-1, b.version + 1)
                self.assertEqual(outcome(b.at, version), outcome(slow.at, version))
        self.assertEqual(words, {(word, bad) for word in COUNTS for bad in (True, False)})
        self.assertTrue({"Unfit", "BadWeb", "BadStanding", "NoTie", "NoName", "Taken", "TooMany", "BadBatch",
                         "Rejected",
                         "TooManyEdits"} <= raised)

    def test_attempts_at_random(self):
        rng = random.Random(313)
        for _ in range(40):
            b, _ = random_benches(rng, 15)
            before = state(b)

            def work(bench):
                for _ in range(5):
                    outcome(rng.choice((bench.undo, bench.redo)))
                    edit = some_edit(rng, {name: bench[name] for name in bench})
                    outcome(getattr(bench, edit[0]), *edit[1:])
                raise NoTie(7)

            self.assertEqual(caught(self, NoTie, b.attempt, work).given, 7)
            self.assertEqual(state(b), before)

    def test_what_is_handed_in_is_never_changed(self):
        rng = random.Random(314)
        b, slow = Bench(), SlowBench()
        for _ in range(100):
            edit = some_edit(rng, slow.tables[-1])
            kept, shown = copy.deepcopy(edit), repr(edit)
            other = b.copy()
            self.assertEqual(outcome(getattr(other, edit[0]), *kept[1:]), outcome(getattr(b, edit[0]), *edit[1:]))
            outcome(slow.edit, *edit)
            self.assertEqual(repr(edit), shown)
            self.assertTrue(other == b)
        for call in (b.add, b.tie, b.untie, b.pinch, b.stand, b.do, b.batch, b.drop, b.at, b.base, b.search):
            many = call.__code__.co_argcount - 1
            for value in ([nested(38)], {"a": [1, {}]}, [[], {}]):
                shown = repr(value)
                outcome(call, *[value] * many)
                self.assertEqual(repr(value), shown)


if __name__ == "__main__":
    unittest.main()
