"""[A3], [L6]: shells, line by line."""

import random
import unittest

from botheven.benches import Bench
from botheven.classes import class_count
from botheven.shells import Shell
from botheven.trees import tree_count
from botheven.webtexts import read_web, web_text
from tests.oracles import FULL, KITE, ODD_VALUES, SQUARE, TRIANGLE, nested

FOUR = "2: 0-1 0-1 0-1 0-1"
# What is no INT: noughts ahead, a nought below 0, seven figures, other figures, signs and blanks.
NO_INTS = (
    "", "-", "--1", "+1", "01", "00", "-0", "-01", "1000000", "-1000000", "0000001", "9" * 5000, "-" + "9" * 5000,
    "0" * 5000,
    "1.0", "1e3", "1_0", "0x1", "one", "None", "True", "\u00b2", "\u0661", "\uff11", "1\n", "\n1", "\t1", "1-", "(1)",
    "1;2",
)
NO_INTSS = NO_INTS + ("none,1", "1,none", "1,,2", ",1", "1,", ",", "None", "NONE", "none,", "1, 2", "1;2", "01,2",
                      "1,-0")


def some_shell():
    s = Shell()
    assert s.say("add four 1,0,0,0 " + FOUR) == "version 1"
    assert s.say("add tri 0,0,0 " + web_text(TRIANGLE)) == "version 2"
    assert s.say("add one none 1:") == "version 3"
    return s


def told(s):
    """Return what a shell tells of all its names, without making bases."""
    names = s.say("names")
    return names, [s.say("show " + name) for name in names.split(" ")]


class Lines(unittest.TestCase):
    def check(self, rows):
        s = Shell()
        for line, answer in rows:
            self.assertEqual(s.say(line), answer, line)
        return s

    def test_add_and_drop(self):
        self.check((
            ("names", "none"), ("add kite 0,-1,999999,-999999,0 " + web_text(KITE), "version 1"), ("names", "kite"),
            ("show kite", "0,-1,999999,-999999,0 4: 0-1 1-2 2-3 0-3 0-2"), ("add a none 1:", "version 2"),
            ("show a", "none 1:"), ("names", "a kite"), ("drop kite", "version 3"), ("names", "a"),
            ("show kite", "error NoName"), ("drop kite", "error NoName"), ("add none none 1:", "version 4"),
            ("names", "a none"), ("show none", "none 1:"), ("drop none", "version 5"), ("drop a", "version 6"),
            ("names", "none"),
        ))

    def test_errors_of_add(self):
        self.check((
            ("add a none ", "error BadText"), ("add a none 1", "error BadText"), ("add a none 1: ", "error BadText"),
            ("add a none  1:", "error BadText"), ("add A none 2:", "error BadText"), ("add a 1 1:\n", "error BadText"),
            ("add A none 1:", "error Unfit"), ("add abcdefghi none 1:", "error Unfit"),
            ("add a\n none 1:", "error Unfit"),
            ("add a,b 7 1:", "error Unfit"), ("add a 0 1:", "error BadStanding"),
            ("add a none 2: 0-1", "error BadStanding"),
            ("add a none 1:", "version 1"), ("add a none 1:", "error Taken"), ("add a 0 1:", "error BadStanding"),
        ) + tuple((f"add {name} none 1:", f"version {k + 2}") for k, name in enumerate("bcdef")) + (
            ("add g none 1:", "error TooMany"), ("add a none 1:", "error Taken"), ("names", "a b c d e f"),
        ))

    def test_edits(self):
        self.check((
            ("add tri 0,0,0 3: 0-1 0-2 1-2", "version 1"), ("tie tri 0 1 5", "version 2"),
            ("show tri", "0,0,0,5 3: 0-1 0-2 1-2 0-1"), ("tie tri 1 0 5", "error BadWeb"),
            ("tie tri 0 3 5", "error BadWeb"),
            ("tie tri -1 0 5", "error BadWeb"), ("untie tri 4", "error NoTie"), ("untie tri -1", "error NoTie"),
            ("stand tri 1,2,3,4", "version 3"), ("stand tri 1,2,3", "error BadStanding"),
            ("stand tri none", "error BadStanding"),
            ("untie tri 0", "version 4"), ("show tri", "2,3,4 3: 0-2 1-2 0-1"), ("pinch tri 0", "version 5"),
            ("show tri", "3,4 2: 0-1 0-1"), ("pinch tri 0", "error Unfit"), ("pinch tri 2", "error NoTie"),
            ("untie tri 1", "version 6"), ("untie tri 0", "error BadWeb"), ("pinch tri 0", "version 7"),
            ("show tri", "none 1:"), ("stand tri none", "version 8"), ("untie tri 0", "error NoTie"),
        ))

    def test_deeds(self):
        self.check((
            ("add four 1,0,0,0 " + FOUR, "version 1"), ("star four 1 -1", "version 2"),
            ("round four 0,3 2", "version 3"),
            ("show four", "2,-1,-1,1 " + FOUR), ("star four 2 1", "error Unfit"), ("star four -1 1", "error Unfit"),
            ("star four 0 0", "error Unfit"), ("round four 0,0 1", "error Unfit"), ("round four 3,0 1", "error Unfit"),
            ("round four none 1", "error Unfit"), ("round four 0,1,2 1", "error Unfit"),
            ("round four 0,4 1", "error Unfit"),
            ("round four 1,2 -999999", "version 4"), ("show four", "2,-1000000,-1000000,1 " + FOUR),
            ("star three 0 1", "error NoName"), ("round three 0,1 1", "error NoName"),
        ))

    def test_undo_and_redo(self):
        self.check((
            ("undo", "error NothingToUndo"), ("redo", "error NothingToRedo"), ("add a none 1:", "version 1"),
            ("undo", "version 0"), ("undo", "error NothingToUndo"), ("names", "none"), ("redo", "version 1"),
            ("redo", "error NothingToRedo"), ("names", "a"), ("undo", "version 0"), ("add b none 1:", "version 1"),
            ("redo", "error NothingToRedo"),
        ))

    def test_forty_edits(self):
        s = some_shell()
        for version in range(4, 41):
            self.assertEqual(s.say("star four 0 1"), f"version {version}")
        self.assertEqual([s.say("star four 0 1"), s.say("drop x"), s.say("drop one")],
                         ["error TooManyEdits", "error NoName", "error TooManyEdits"])
        self.assertEqual([s.say("undo"), s.say("drop one"), s.say("redo")],
                         ["version 39", "version 40", "error NothingToRedo"])

    def test_find(self):
        self.check((
            ("find none 1:", "none"), ("add b 1,0,0,0 " + FOUR, "version 1"), ("add a 0,0,0,1 " + FOUR, "version 2"),
            ("find 0,7,0,0 " + FOUR, "a b"), ("find 0,0,0,0 " + FOUR, "none"),
            ("find 0,0 " + FOUR, "error BadStanding"),
            ("find none ", "error BadText"), ("find 0 2:", "error BadText"), ("find none 2: 0-1", "error BadStanding"),
            ("add c none 1:", "version 3"), ("find none 1:", "c"), ("find 0,0 2: 0-1 0-1", "none"), ("made", "0"),
        ))

    def test_base_and_made(self):
        self.check((
            ("made", "0"), ("base x", "error NoName"), ("add four 0,0,0,0 " + FOUR, "version 1"),
            ("add full 0,0,0,0,0,0 " + web_text(FULL), "version 2"),
            ("add tri 0,0,0 " + web_text(TRIANGLE), "version 3"),
            ("base full", "0,2,3,5;1,2,3,4"), ("made", "1"), ("base four", "0,1,2,3"), ("base tri", "none"),
            ("base full", "0,2,3,5;1,2,3,4"), ("made", "3"), ("drop full", "version 4"), ("undo", "version 3"),
            ("made", "3"),
        ))

    def test_trees_and_classes(self):
        self.check((
            ("add full 0,0,0,0,0,0 " + web_text(FULL), "version 1"), ("trees full", "16"), ("classes full", "4"),
            ("add sq 0,0,0,0 " + web_text(SQUARE), "version 2"), ("trees sq", "4"), ("classes sq", "error Thin"),
            ("trees x", "error NoName"), ("classes x", "error NoName"), ("made", "0"),
            ("add one none 1:", "version 3"), ("trees one", "1"), ("classes one", "1"),
        ))

    def test_two_shells_have_benches_of_their_own(self):
        one, other = Shell(), Shell()
        one.say("add a none 1:")
        self.assertEqual((one.say("names"), other.say("names"), other.say("undo")),
                         ("a", "none", "error NothingToUndo"))

    def test_by_name(self):
        self.assertEqual(Shell().say(line="made"), "0")


class What(unittest.TestCase):
    def check_what(self, lines):
        s = some_shell()
        before = told(s)
        for line in lines:
            self.assertEqual(s.say(line), "what", repr(line)[:80])
        self.assertEqual((told(s), s.say("redo"), s.say("made")), (before, "error NothingToRedo", "0"))

    def test_what_is_no_string(self):
        values = [value for value in ODD_VALUES if type(value) is not str]
        self.check_what(values + [Bench(), Shell(), b"made", ["made"], ("made",), {"made": 1}, nested(39)])

    def test_words_that_are_none(self):
        self.check_what(("", " ", "\n", "x" * 20000, " " * 20000, "what", "help", "MADE", "Made", "Undo", "NAMES",
                         "names\n",
                         "\nnames", "made,", "batch ()", "batch", "do four ()", "at 1", "copy", "attempt", "search",
                         "edit", "log", "shelf", "version", "len", "error", "ad four none 1:", "addd x none 1:",
                         "ADD a none 1:", "Drop four", "made\u0020\u0020", "__init__", "say made"))

    def test_whole_lines(self):
        for word in ("undo", "redo", "names", "made"):
            self.check_what((word + " ", " " + word, word + "  ", word + " four", word + "\n", word + " \n", word + "s",
                             word[:-1],
                             word + "," + word))

    def test_words_too_few_and_too_many(self):
        lines = []
        for line in ("drop four", "tie four 0 1 5", "untie four 0", "pinch four 0", "stand four 0,0,0,0",
                     "star four 0 1",
                     "round four 0,1 1", "show four", "base four", "trees four", "classes four"):
            parts = line.split(" ")
            lines += [" ".join(parts[:k]) for k in range(1, len(parts))]
            lines += [line + " ", line + "  ", line + " 0", line + " x", " " + line, line + " \n"]
            lines += [" ".join(parts[:k]) + "  " + " ".join(parts[k:]) for k in range(1, len(parts))]
            lines += ["  ".join(parts), "\t".join(parts), "\n".join(parts), ",".join(parts), "".join(parts)]
        lines += ["add", "add ", "add x", "add x ", "add x none", "add x  1:", "add  none 1:", "add x 1:",
                  "add  x none 1:"]
        lines += ["find", "find ", "find none", "find  1:", "find 1:", "find  none 1:", " find none 1:", "find 0,0"]
        self.check_what(lines)

    def test_integers_that_are_none(self):
        for text in NO_INTS:
            self.check_what((f"tie tri {text} 1 5", f"tie tri 0 {text} 5", f"tie tri 0 1 {text}", f"untie four {text}",
                             f"pinch tri {text}", f"star four {text} 1", f"star four 0 {text}",
                             f"round four 0,1 {text}"))
        for text in NO_INTSS:
            self.check_what((f"stand four {text}", f"round four {text} 1", f"add x {text} 1:", f"find {text} 1:"))

    def test_ahead_of_errors(self):
        self.check_what(("drop", "untie x 01", "stand x ", "star x 0 -0", "add X 01 2:", "find 01 2:",
                         "round x 0,,1 1"))

    def test_integers_of_six_figures(self):
        s = some_shell()
        for text in ("0", "-1", "9", "10", "-999999", "999999", "100000"):
            self.assertIn(s.say(f"stand four {text},0,0,{text}"), [f"version {k}" for k in range(4, 40)])
            self.assertEqual(s.say("show four"), f"{text},0,0,{text} " + FOUR)

    def test_lists_of_thousands(self):
        s = some_shell()
        row = ",".join(["0"] * 4000)
        self.assertEqual(s.say("stand four " + row), "error BadStanding")
        self.assertEqual(s.say("round four " + row + " 1"), "error Unfit")
        self.assertEqual(s.say("add x " + row + " 1:"), "error BadStanding")
        self.assertEqual(s.say("stand four " + row + "x"), "what")
        self.assertEqual(s.say("find none " + "2: " + "0-1 " * 4000), "error BadText")

    def test_names_of_other_signs(self):
        s = some_shell()
        for name in ("FOUR", "four\n", "\n", "four,tri", "-", "7", "a" * 9000, "\u00e4", "none"):
            for line in ("drop {}", "tie {} 0 1 2", "untie {} 0", "pinch {} 0", "stand {} none", "star {} 0 1",
                         "round {} 0 1",
                         "show {}", "base {}", "trees {}", "classes {}"):
                self.assertEqual(s.say(line.replace("{}", name)), "error NoName")
            self.assertEqual(s.say(f"add {name} none 1:"), "error Unfit" if name != "none" else "version 4")


class Random(unittest.TestCase):
    def test_held_against_a_bench(self):
        rng = random.Random(320)
        texts = [FOUR, web_text(KITE), "1:", web_text(TRIANGLE), web_text(FULL)]
        for _ in range(20):
            s, b = Shell(), Bench()
            for _ in range(60):
                name, k = rng.choice("abcd"), rng.randrange(5)
                text = rng.choice(texts)
                numbers = tuple(rng.randint(-3, 3) for _ in read_web(text)[1])
                ints = ",".join(str(number) for number in numbers) or "none"
                rows = (
                    (f"add {name} {ints} {text}", lambda: b.add(name, read_web(text), numbers)),
                    (f"add {name} {ints} {text}", lambda: b.add(name, read_web(text), numbers)),
                    (f"drop {name}", lambda: b.drop(name)), (f"tie {name} 0 1 {k}", lambda: b.tie(name, 0, 1, k)),
                    (f"untie {name} {k}", lambda: b.untie(name, k)), (f"pinch {name} {k}", lambda: b.pinch(name, k)),
                    (f"stand {name} {ints}", lambda: b.stand(name, numbers)),
                    (f"star {name} {k} 2", lambda: b.do(name, (("star", k, 2),))),
                    (f"round {name} 0,{k} -1", lambda: b.do(name, (("round", (0, k), -1),))),
                    ("undo", b.undo), ("redo", b.redo),
                )
                line, call = rng.choice(rows)
                self.assertEqual(s.say(line), self.version(call), line)
                self.assertEqual(s.say("names"), " ".join(b) or "none")
                self.check_name(s, b, name)
                self.assertEqual(s.say(f"find {ints} {text}"), " ".join(b.search(read_web(text), numbers)) or "none")
            self.assertEqual(s.say("made"), str(b.made))

    def check_name(self, s, b, name):
        if name not in list(b):
            for word in ("show", "base", "trees", "classes"):
                self.assertEqual(s.say(f"{word} {name}"), "error NoName")
            return
        web, standing = b[name]
        ints = ",".join(str(number) for number in standing) or "none"
        self.assertEqual(s.say("show " + name), ints + " " + web_text(web))
        self.assertEqual(s.say("trees " + name), str(tree_count(web)))
        lots = ";".join(",".join(str(tie) for tie in lot) for lot in b.base(name))
        self.assertEqual(s.say("base " + name), lots or "none")
        try:
            classes = str(class_count(web))
        except ValueError as error:
            classes = "error " + type(error).__name__
        self.assertEqual(s.say("classes " + name), classes)

    def version(self, call):
        try:
            return f"version {call()}"
        except ValueError as error:
            return "error " + type(error).__name__


if __name__ == "__main__":
    unittest.main()
