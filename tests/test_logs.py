"""[A3], [R1] to [R3]: the texts of edits, and benches behind them."""

import random
import time
import unittest

from botheven.benches import Bench
from botheven.errors import BadLog, NothingToUndo
from botheven.logs import bench_behind, log_text, read_log
from tests.oracles import ALONE, FAT, KITE, ODD_VALUES, caught, check_call, nested, outcome
from tests.slowbench import COUNTS, some_edit

FAR = 10 ** 30
LONE = (2, ((0, 1),))


def text_by_hand(value):
    """Return the text of a value: what Python shows, less blanks, quotes and commas ahead of brackets."""
    shown = repr(value).replace(" ", "").replace("'", "")
    return shown.replace(",)", ")")


def deep(depth):
    """Return a tuple with so many brackets open at once."""
    value = ()
    for _ in range(depth - 1):
        value = (value,)
    return value


def some_value(rng, depth):
    """Return a value that has a text."""
    roll = rng.random()
    if depth == 0 or roll < 0.4:
        return rng.choice((0, 1, -1, 7, -40, 10 ** 12, FAR, -FAR, rng.randint(-FAR, FAR)))
    if roll < 0.7:
        return "".join(rng.choice("abyz") for _ in range(rng.randint(1, 8)))
    return tuple(some_value(rng, depth - 1) for _ in range(rng.randint(0, 4)))


def some_tuple(rng):
    """Return an edit tuple with any arguments that have texts."""
    word = rng.choice(sorted(COUNTS))
    return (word,) + tuple(some_value(rng, 4) for _ in range(COUNTS[word]))


def some_bench(rng, many):
    """Return a bench on which up to so many edits were tried."""
    bench = Bench()
    for _ in range(many):
        edit = some_edit(rng, {name: bench[name] for name in bench})
        outcome(getattr(bench, edit[0]), *edit[1:])
    return bench


class There_and_back(unittest.TestCase):
    def test_some(self):
        edits = (("add", "a", ALONE, ()), ("tie", "x", 0, -1, FAR), ("batch", (("drop", "a"),)), ("drop", ((), ((),))))
        text = "(add,a,(1,()),())\n(tie,x,0,-1,1000000000000000000000000000000)\n(batch,((drop,a)))\n(drop,((),(())))\n"
        self.assertEqual(log_text(edits), text)
        self.assertEqual(read_log(text), edits)
        self.assertEqual((log_text(()), read_log("")), ("", ()))
        self.assertEqual(read_log(value=log_text(edits=edits)), edits)

    def test_edit_tuples_at_random(self):
        rng = random.Random(410)
        texts, rows = set(), set()
        for _ in range(300):
            edits = tuple(some_tuple(rng) for _ in range(rng.randint(0, 4)))
            text = log_text(edits)
            self.assertEqual(text, "".join(text_by_hand(edit) + "\n" for edit in edits))
            found = read_log(text)
            self.assertEqual(repr(found), repr(edits))
            texts.add(text)
            rows.add(edits)
        self.assertEqual(len(texts), len(rows))

    def test_cut_anywhere(self):
        rng = random.Random(411)
        for _ in range(25):
            edits = tuple(some_tuple(rng) for _ in range(rng.randint(1, 4)))
            text = log_text(edits)
            for k in range(len(text) + 1):
                self.assertEqual(read_log(text[:k]), edits[:text[:k].count("\n")])

    def test_what_stands_behind_the_last_line_feed_is_no_line(self):
        for tail in ("x", "(drop,07)", "((((", " ", "(drop,duo)", "\u0661", "(" * 20000):
            self.assertEqual(read_log("(drop,duo)\n" + tail), (("drop", "duo"),))
            self.assertEqual(read_log(tail), ())

    def test_calls(self):
        check_call(self, log_text, {"edits": (("drop", "a"), ("stand", "b", (1, -2)))})
        for value in ("(drop,a)\n", "(drop)\n", None, ["(drop,a)\n"], "x"):
            check_call(self, read_log, {"value": value})


class Lines(unittest.TestCase):
    def bad(self, line):
        """Check that a line is the text of no edit tuple, wherever it stands."""
        good = "(drop,duo)\n"
        for k in range(3):
            error = caught(self, BadLog, read_log, good * k + line + "\n" + good)
            self.assertEqual(error.place, k, line[:60])
        self.assertEqual(caught(self, BadLog, read_log, good + line + "\n" + "x\n").place, 1)

    def test_integers(self):
        for text in ("0", "5", "-5", "10", str(FAR), str(-FAR), "9" * 30):
            self.assertEqual(read_log(f"(drop,{text})\n"), (("drop", int(text)),))
        for text in ("00", "01", "-0", "-01", "--1", "+1", "-", "1-", str(FAR + 1), str(-FAR - 1), "9" * 31,
                     "9" * 15000, "1.0", "1e3",
                     "1_0", "0x1", "\u0661", "\u00b2", "1 ", " 1", "1a", "a1", "0" * 40):
            self.bad(f"(drop,{text})")
            self.bad(f"(stand,a,({text}))")
            self.bad(f"(stand,a,(1,{text},2))")

    def test_words(self):
        for word in ("a", "z", "abcdefgh", "none", "true", "drop"):
            self.assertEqual(read_log(f"(drop,{word})\n"), (("drop", word),))
        for word in ("abcdefghi", "A", "aB", "DROP", "a_b", "a-b", "a.b", "'a'", "a b", "a1", "\u00e4", "a" * 15000,
                     "True", "None", "[]", "{}"):
            self.bad(f"(drop,{word})")
            self.bad(f"(drop,(1,{word}))")

    def test_words_of_edits(self):
        for word, count in COUNTS.items():
            self.assertEqual(read_log("(" + ",".join([word] + ["7"] * count) + ")\n"), ((word,) + (7,) * count,))
            for other in range(7):
                if other != count:
                    self.bad("(" + ",".join([word] + ["7"] * other) + ")")
            for wrong in (word.upper(), word.title(), word + "s", word[:-1], f"({word})", "undo", "redo", "copy", "at",
                          "base", "edit", "7"):
                if wrong not in COUNTS:
                    self.bad("(" + ",".join([wrong] + ["7"] * count) + ")")

    def test_commas_brackets_and_blanks(self):
        for line in ("", " ", "()", "(())", "drop", "drop,duo", "(drop,duo", "drop,duo)", "((drop,duo))", "(drop,duo))",
                     "((drop,duo)", "(drop,,duo)",
                     "(drop,duo,)", "(,drop,duo)", "(drop duo)", "(drop, duo)", "( drop,duo)", "(drop,duo )",
                     " (drop,duo)", "(drop,duo) ",
                     "(drop,)", "(drop,(,))", "(drop,(1,))", "(drop,(,1))", "(drop,(1,,2))", "(drop,()1)", "(drop,1())",
                     "(drop,()())", "(drop(duo))",
                     "(drop,duo)(drop,duo)", "(drop,duo),", "[drop,duo]", "(drop;duo)", "\t(drop,duo)", "(drop,duo)\r",
                     ")drop,duo(", ")", "(", ",",
                     "(drop,(1)", "(drop,1))", "(add,a,(2,((0,1)),(0))", "None", "7"):
            self.bad(line)

    def test_20_brackets_open_and_21(self):
        for depth in range(1, 20):
            line = "(drop," + "(" * depth + ")" * depth + ")\n"
            self.assertEqual(read_log(line), (("drop", deep(depth)),))
            self.assertEqual(log_text((("drop", deep(depth)),)), line)
        for depth in (20, 21, 40, 5000):
            self.bad("(drop," + "(" * depth + ")" * depth + ")")
            self.bad("(drop," + "(" * depth)
        # Brackets that are closed again do not count.
        self.assertEqual(len(read_log("(drop,(" + ",".join(["((()))"] * 500) + "))\n")[0][1]), 500)

    def test_thousands_of_signs(self):
        begun = time.monotonic()
        row = ",".join(["-12"] * 4000)
        self.assertEqual(read_log(f"(drop,({row}))\n"), (("drop", (-12,) * 4000),))
        for line in ("(drop,(" + row + ")", "(" * 19000, ")" * 19000, "," * 19000, "(drop," * 3000,
                     "(drop,(" + "," * 9000 + "))", "a" * 19000,
                     "(drop," + "(1)," * 4000 + "1)", "(drop,(" + "1," * 9000 + "))", "(" + "drop," * 3000 + ")",
                     "(drop," + "((((" * 4000):
            self.bad(line)
        self.assertEqual(len(read_log("(drop,a)\n" * 2000)), 2000)
        self.assertEqual(caught(self, BadLog, read_log, "(drop,a)\n" * 2000 + "\n").place, 2000)
        self.assertEqual(caught(self, BadLog, read_log, "\n" * 19000).place, 0)
        self.assertLess(time.monotonic() - begun, 20)

    def test_the_first_such_line(self):
        self.assertEqual(caught(self, BadLog, read_log, "(drop,a)\n(drop,07)\n(drop)\n").place, 1)
        self.assertEqual(caught(self, BadLog, read_log, "(drop,a)\n\n").place, 1)
        self.assertEqual(caught(self, BadLog, read_log, value="(drop,a)\n(drop,b)\n\n(drop,c").place, 2)

    def test_what_is_no_string(self):
        for value in [value for value in ODD_VALUES if type(value) is not str] + [b"(drop,a)\n", ["(drop,a)\n"],
                                                                                  Bench(), nested(39)]:
            self.assertEqual(caught(self, BadLog, read_log, value).place, 0)
        for value in [value for value in ODD_VALUES if type(value) is str]:
            self.assertEqual(outcome(read_log, value), "raises BadLog {'place': 0}" if "\n" in value else "()")

    def test_one_sign_changed(self):
        rng = random.Random(412)
        fine = 0
        for _ in range(60):
            text = log_text((some_tuple(rng),))[:-1]
            for _ in range(20):
                k, sign = rng.randrange(len(text)), rng.choice("(),-0123 abzA")
                for other in (text[:k] + text[k + 1:], text[:k] + sign + text[k:], text[:k] + sign + text[k + 1:]):
                    try:
                        found = read_log(other + "\n")
                    except BadLog as error:
                        self.assertEqual(error.place, 0)
                        continue
                    fine += 1
                    self.assertEqual(log_text(found), other + "\n")
        self.assertGreater(fine, 100)


class Behind(unittest.TestCase):
    def test_a_new_bench(self):
        self.assertEqual((bench_behind(()).shelf, bench_behind(()).version), ((), 0))
        self.assertIsNot(bench_behind(()), bench_behind(()))
        found = bench_behind(edits=(("add", "a", LONE, (3,)), ("do", "a", (("star", 0, 2),)),
                                    ("batch", (("drop", "a"),))))
        self.assertIs(type(found), Bench)
        self.assertEqual((found.version, found.shelf, found.undo(), found["a"]), (3, (), 2, (LONE, (5,))))

    def test_the_first_edit_that_is_refused(self):
        good, more = ("add", "a", LONE, (3,)), ("drop", "a")
        bad = [("drop", "b"), ("add", "A", LONE, (3,)), ("add", "b", None, ()), ("add", "b", LONE, ()),
               ("add", "a", LONE, (1,)),
               ("tie", "a", 1, 0, 0), ("tie", "a", 0, 1, "x"), ("untie", "a", 0), ("untie", "a", 1),
               ("pinch", (), (5,)), ("pinch", "a", 1),
               ("stand", "a", ()), ("do", "a", 7), ("batch", 7), ("batch", (more, more)), ("batch", (("batch", ()),)),
               ("drop", [1, {}])]
        for edit in bad:
            self.assertEqual(caught(self, BadLog, bench_behind, (good, edit)).place, 1)
            self.assertEqual(caught(self, BadLog, bench_behind, (good, edit, ("drop", "zz"))).place, 1)
        self.assertEqual(caught(self, BadLog, bench_behind, (good, more, more)).place, 2)
        self.assertEqual(caught(self, BadLog, bench_behind, (more,)).place, 0)

    def test_40_edits_and_41(self):
        edits = (("add", "a", ALONE, ()),) + (("stand", "a", ()),) * 39
        self.assertEqual(bench_behind(edits).version, 40)
        self.assertEqual(caught(self, BadLog, bench_behind, edits + (("drop", "a"),)).place, 40)

    def test_back_through_the_same_shelves(self):
        rng = random.Random(413)
        words = set()
        for _ in range(25):
            bench = some_bench(rng, 40)
            words.update(edit[0] for edit in bench.log)
            for log in (bench.log, read_log(log_text(bench.log))):
                other = bench_behind(log)
                self.assertTrue(other == bench)
                self.assertEqual((other.version, other.log, other.shelf), (bench.version, bench.log, bench.shelf))
                self.assertEqual(repr(other.log), repr(bench.log))
                other = other.copy()
                for version in range(bench.version - 1, -1, -1):
                    self.assertEqual((other.undo(), other.shelf), (version, bench.at(version)))
                self.assertRaises(NothingToUndo, other.undo)
        self.assertEqual(words, set(COUNTS))

    def test_a_log_that_is_cut_anywhere(self):
        rng = random.Random(414)
        bench = some_bench(rng, 25)
        text = log_text(bench.log)
        for k in range(0, len(text) + 1, 7):
            found = bench_behind(read_log(text[:k]))
            self.assertEqual((found.version, found.shelf), (text[:k].count("\n"), bench.at(text[:k].count("\n"))))

    def test_what_was_taken_back_is_not_in_the_log(self):
        bench = Bench()
        bench.add("a", FAT, (0,) * 4)
        bench.add("b", KITE, (0,) * 5)
        bench.undo()
        self.assertEqual(log_text(bench.log), "(add,a,(2,((0,1),(0,1),(0,1),(0,1))),(0,0,0,0))\n")
        self.assertTrue(bench_behind(bench.log) == bench)

    def test_what_is_handed_in_is_never_changed(self):
        edits = (("add", "a", LONE, (3,)), ("do", "a", (("star", 0, 2),)), ("drop", {"a": [1]}))
        shown = repr(edits)
        self.assertEqual(caught(self, BadLog, bench_behind, edits).place, 2)
        self.assertEqual(repr(edits), shown)


if __name__ == "__main__":
    unittest.main()
