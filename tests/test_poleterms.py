"""[A3], [P4] to [P8]: terms of webs with two poles."""

import random
import time
import unittest

from botheven.errors import BadText, Unfit
from botheven.evens import lot_many
from botheven.poles import pole_type
from botheven.poleterms import read_term, term_error, term_lots, term_size, term_text, term_type, term_web
from botheven.webs import web_error
from tests.oracles import ODD_VALUES, caught, check_call, nested

FAR = 10 ** 30
WORDS = ("row", "side", "rows", "sides")
THREEFOLD = ("sides", ("rows", "tie", 2), 3)


def deep(depth, word="row"):
    """Return a term that is nested so deep."""
    term = "tie"
    for _ in range(depth):
        term = (word, term, 1 if word in ("rows", "sides") else "tie")
    return term


def deep_value(depth):
    """Return a triple of triples that is no term, nested so deep."""
    value = 0
    for _ in range(depth):
        value = (1, value, 2)
    return value


def some_term(rng, depth, most=4):
    if depth == 0 or rng.random() < 0.2:
        return "tie"
    word = rng.choice(WORDS)
    behind = some_term(rng, depth - 1, most) if word in ("row", "side") else rng.randint(1, most)
    return (word, some_term(rng, depth - 1, most), behind)


def all_terms(depth):
    """Return all terms that are nested at most so deep, with times from 1 to 3."""
    if depth == 0:
        return ["tie"]
    inner = all_terms(depth - 1)
    found = ["tie"] + [(word, one, other) for word in ("row", "side") for one in inner for other in inner]
    return found + [(word, one, m) for word in ("rows", "sides") for one in inner for m in (1, 2, 3)]


def wide(count):
    """Return a term with so many items, tuples and their items counted alike; count is 1 more than a multiple of 3."""
    row = ["tie"] * ((count - 1) // 3 + 1)
    rng = random.Random(count)
    while len(row) > 1:
        row = [(rng.choice(("row", "side")), one, other) for one,
               other in zip(row[::2], row[1::2])] + row[len(row) // 2 * 2:]
    return row[0]


def unfolded(term):
    """Return the term in which many times are told as pairs."""
    if term == "tie":
        return term
    word, part, behind = term
    if word in ("row", "side"):
        return (word, unfolded(part), unfolded(behind))
    found = unfolded(part)
    for _ in range(behind - 1):
        found = (word[:-1], found, unfolded(part))
    return found


def slow_web(term):
    """Return the web that the term tells, laid by the document's words."""
    ties, free = [], [2]

    def lay(each, start, goal):
        if each == "tie":
            ties.append(tuple(sorted((start, goal))))
            return
        word, part, behind = each
        parts = [part, behind] if word in ("row", "side") else [part] * behind
        stops = [start]
        for _ in parts[1:] if word in ("row", "rows") else ():
            stops.append(free[0])
            free[0] += 1
        for k, one in enumerate(parts):
            if word in ("row", "rows"):
                lay(one, stops[k], (stops + [goal])[k + 1])
            else:
                lay(one, start, goal)

    lay(term, 0, 1)
    return (free[0], tuple(ties))


def size_of(term):
    """Return how many places but the poles and how many ties there are."""
    if term == "tie":
        return (0, 1)
    word, part, behind = term
    if word in ("row", "side"):
        one, other = size_of(part), size_of(behind)
        return (one[0] + other[0] + (word == "row"), one[1] + other[1])
    inner, ties = size_of(part)
    return (inner * behind + (behind - 1) * (word == "rows"), ties * behind)


class Errors(unittest.TestCase):
    def test_terms(self):
        for term in all_terms(2)[::3] + [THREEFOLD, ("rows", "tie", 1), ("sides", "tie", FAR),
                                         ("rows", THREEFOLD, FAR)]:
            self.assertIsNone(term_error(term))
        self.assertIsNone(term_error(value="tie"))

    def test_form(self):
        for value in ODD_VALUES + ("ties", "TIE", " tie", ("tie",), ["row", "tie", "tie"], ("row", "tie"),
                                   ("Row", "tie", "tie"),
                                   ("row", "tie", "tie", "tie"), ("knot", "tie", "tie"), (None, "tie", "tie"),
                                   (["row"], "tie", "tie"),
                                   ({}, 1, 2), ("tie", "tie", "tie"), (True, "tie", 1), (("row",), "tie", 1), b"tie"):
            self.assertEqual(term_error(value), "form")

    def test_parts(self):
        for value in ODD_VALUES + ("knot", ["tie"], ("row", "tie"), ("knot", "tie", "tie")):
            for word in ("row", "side"):
                self.assertEqual(term_error((word, value, "tie")), ("part", 1, "form"))
                self.assertEqual(term_error((word, value, value)), ("part", 1, "form"))
                self.assertEqual(term_error((word, "tie", value)), ("part", 2, "form"))
            for word in ("rows", "sides"):
                self.assertEqual(term_error((word, value, 2)), ("part", 1, "form"))
                self.assertEqual(term_error((word, value, 0)), ("part", 1, "form"))
                self.assertEqual(term_error((word, value, value)), ("part", 1, "form"))

    def test_times(self):
        values = [value for value in ODD_VALUES if type(value) is not int] + [0, -1, -FAR, FAR + 1, 10 ** 399, "tie",
                                                                              "2", (2,)]
        for value in values:
            for word in ("rows", "sides"):
                self.assertEqual(term_error((word, "tie", value)), "times")
                self.assertEqual(term_error((word, THREEFOLD, value)), "times")
                self.assertEqual(term_error(("row", "tie", (word, "tie", value))), ("part", 2, "times"))
        for m in (1, 2, FAR - 1, FAR):
            self.assertIsNone(term_error(("rows", "tie", m)))

    def test_nested_errors(self):
        self.assertEqual(term_error(("row", ("side", "tie", ("rows", "tie", 0)), 5)), ("part", 1, ("part", 2, "times")))
        self.assertEqual(term_error(("rows", ("side", "tie", 1), 2)), ("part", 1, ("part", 2, "form")))
        value, error = 0, "form"
        for k in range(20):
            word = WORDS[k % 4]
            value = (word, value, 1) if k % 4 > 1 else (word, "tie", value)
            error = ("part", 1 if k % 4 > 1 else 2, error)
            self.assertEqual(term_error(value), error)

    def test_20_deep_and_21(self):
        for word in WORDS:
            self.assertIsNone(term_error(deep(20, word)))
            self.assertEqual(term_error(deep(21, word)), "form")
            self.assertEqual(term_error(deep(40, word)), "form")
        self.assertIsNone(term_error(("row", "tie", deep(19))))
        self.assertEqual(term_error(("row", "tie", deep(20))), "form")

    def test_nested_in_an_item_that_is_no_term(self):
        self.assertEqual(term_error(("rows", "tie", deep_value(19))), "times")
        self.assertEqual(term_error(("rows", "tie", deep_value(20))), "form")
        self.assertEqual(term_error(("rows", deep_value(20), 0)), "form")
        self.assertEqual(term_error(("rows", deep_value(19), 0)), ("part", 1, "form"))
        self.assertEqual(term_error(("sides", "tie", deep(20))), "form")
        self.assertEqual(term_error(("sides", "tie", deep(19))), "times")
        self.assertEqual(term_error(("row", "tie", ("knot", "tie", deep(18)))), ("part", 2, "form"))
        self.assertEqual(term_error(("row", "tie", ("knot", "tie", deep(19)))), "form")
        # What is no triple is not nested, whatever stands in it.
        self.assertEqual(term_error(("row", "tie", (deep(20), "tie"))), ("part", 2, "form"))
        self.assertEqual(term_error(("row", "tie", [deep(20)])), ("part", 2, "form"))
        self.assertEqual(term_error(("rows", "tie", nested(38))), "times")

    def test_calls(self):
        for value in (THREEFOLD, ("row", "tie", 1), [1], deep(21), ("rows", "tie", True)):
            check_call(self, term_error, {"value": value})


class Told(unittest.TestCase):
    def test_held_against_the_webs_of_small_terms(self):
        rng = random.Random(380)
        terms = all_terms(2) + [some_term(rng, 4) for _ in range(300)]
        many = 0
        for term in terms:
            places, ties = size_of(term)
            self.assertEqual(term_size(term), (places + 2, ties))
            if places <= 10 and ties <= 40:
                many += 1
                web = term_web(term)
                self.assertEqual(web, slow_web(term))
                self.assertIsNone(web_error(web))
                self.assertEqual(term_size(term), (web[0], len(web[1])))
                self.assertEqual(term_type(term), pole_type(web, 0, 1))
                self.assertEqual(term_lots(term), lot_many(web))
            else:
                caught(self, Unfit, term_web, term)
        self.assertGreater(many, 200)

    def test_many_times_are_pairs_of_pairs(self):
        rng = random.Random(381)
        for term in [some_term(rng, 3, 6) for _ in range(100)] + all_terms(2)[::2]:
            self.assertEqual(term_type(term), term_type(unfolded(term)))
            self.assertEqual(term_size(term), term_size(unfolded(term)))
            self.assertEqual(term_lots(term), term_lots(unfolded(term)))

    def test_great_times(self):
        two = ("sides", "tie", 2)
        self.assertEqual((term_type(("rows", two, FAR)), term_lots(("rows", two, FAR))), ((FAR - 1, "open"), FAR))
        self.assertEqual(term_type(("sides", "tie", FAR)), (0, "open"))
        self.assertEqual(term_type(("sides", "tie", FAR - 1)), (0, "tie"))
        self.assertEqual(term_type(("rows", "tie", FAR - 1)), (0, "tie"))
        self.assertEqual(term_size(("rows", "tie", FAR)), (FAR + 1, FAR))
        self.assertEqual(term_size(("rows", ("rows", two, FAR), FAR)), (FAR ** 2 + 1, 2 * FAR ** 2))
        self.assertEqual(term_type(("sides", ("rows", "tie", 2), FAR)), (FAR - 1, "one"))
        self.assertEqual(term_lots(("sides", ("rows", "tie", 2), FAR)), FAR - 1)
        term, size = "tie", 1
        for k in range(20):
            term, size = (("rows", "sides")[k % 2], term, FAR), size * FAR
        self.assertEqual(term_size(term)[1], size)
        self.assertIsInstance(term_type(term)[0], int)

    def test_4000_items_told_soon(self):
        for count in (3997, 3001):
            term = wide(count)
            self.assertIsNone(term_error(term))
            begun = time.monotonic()
            places, ties = term_size(term)
            self.assertEqual((places - 2, ties), size_of(term))
            self.assertEqual(ties, (count + 2) // 3)
            self.assertIn(term_type(term)[1], ("open", "tie", "one"))
            self.assertEqual(term_lots(term), term_type(term)[0] + (term_type(term)[1] == "open"))
            self.assertEqual(read_term(term_text(term)), term)
            caught(self, Unfit, term_web, term)
            self.assertLess(time.monotonic() - begun, 5)

    def test_calls(self):
        for term in ("tie", THREEFOLD, ("row", THREEFOLD, ("sides", "tie", FAR))):
            for call in (term_type, term_size, term_lots, term_web, term_text):
                check_call(self, call, {"term": term})


class Webs(unittest.TestCase):
    def test_tie_by_tie(self):
        self.assertEqual(term_web(("side", "tie", "tie")), (2, ((0, 1), (0, 1))))
        self.assertEqual(term_web(("row", "tie", "tie")), (3, ((0, 2), (1, 2))))
        self.assertEqual(term_web(("sides", ("row", "tie", "tie"), 2)), (4, ((0, 2), (1, 2), (0, 3), (1, 3))))
        self.assertEqual(term_web(term=("rows", ("sides", "tie", 2), 2)), (3, ((0, 2), (0, 2), (1, 2), (1, 2))))
        inner = ("row", "tie", ("side", "tie", ("row", "tie", "tie")))
        self.assertEqual(term_web(inner), (4, ((0, 2), (1, 2), (2, 3), (1, 3))))
        self.assertEqual(term_web(("rows", inner, 2)),
                         (7, ((0, 3), (2, 3), (3, 4), (2, 4), (2, 5), (1, 5), (5, 6), (1, 6))))
        self.assertEqual(term_web(("row", ("rows", "tie", 2), ("rows", "tie", 3))),
                         (6, ((0, 3), (2, 3), (2, 4), (4, 5), (1, 5))))

    def test_just_12_places_and_13(self):
        self.assertEqual(term_web(("rows", "tie", 11))[0], 12)
        caught(self, Unfit, term_web, ("rows", "tie", 12))
        self.assertEqual(term_web(("sides", ("rows", "tie", 2), 10))[0], 12)
        caught(self, Unfit, term_web, ("sides", ("rows", "tie", 2), 11))
        self.assertEqual(term_web(("row", ("rows", "tie", 5), ("rows", "tie", 6)))[0], 12)
        caught(self, Unfit, term_web, ("row", ("rows", "tie", 6), ("rows", "tie", 6)))

    def test_just_40_ties_and_41(self):
        self.assertEqual(term_web(("sides", "tie", 40)), (2, ((0, 1),) * 40))
        caught(self, Unfit, term_web, ("sides", "tie", 41))
        self.assertEqual(len(term_web(("rows", ("sides", "tie", 4), 10))[1]), 40)
        caught(self, Unfit, term_web, ("side", "tie", ("rows", ("sides", "tie", 4), 10)))
        self.assertEqual(len(term_web(("side", ("sides", "tie", 39), "tie"))[1]), 40)

    def test_great_times_told_soon(self):
        begun = time.monotonic()
        term = "tie"
        for k in range(20):
            term = (("rows", "sides")[k % 2], term, FAR)
            caught(self, Unfit, term_web, term)
        caught(self, Unfit, term_web, ("sides", "tie", FAR))
        self.assertEqual(term_web(deep(20, "rows")), (2, ((0, 1),)))
        self.assertLess(time.monotonic() - begun, 5)


class Texts(unittest.TestCase):
    def test_there_and_back(self):
        rng = random.Random(382)
        terms = all_terms(2) + [some_term(rng, 6, FAR) for _ in range(300)] + [deep(20, word) for word in WORDS]
        texts = set()
        for term in terms:
            text = term_text(term)
            texts.add(text)
            self.assertEqual(read_term(text), term)
            self.assertEqual(repr(read_term(value=text)), repr(term))
        self.assertEqual(len(texts), len(set(terms)))

    def test_some(self):
        self.assertEqual(term_text(("row", ("side", "tie", "tie"), ("rows", "tie", 10))), "([- -] (-*10))")
        self.assertEqual(term_text(("sides", "tie", FAR)), f"[-*{FAR}]")
        self.assertEqual(read_term(f"[-*{FAR}]"), ("sides", "tie", FAR))
        self.assertEqual(read_term("-"), "tie")

    def test_bad_texts(self):
        texts = [
            "", "--", "- -", " -", "- ", "-\n", "()", "(-)", "[-]", "(- - -)", "(-  -)", "(- -) ", " (- -)", "(- -]",
            "[- -)", "(- -",
            "- -)", "(-*2", "(-*)", "(-*2]", "[-*2)", "(*2)", "(-*-1)", "(-*+1)", "(-*0)", "(-*00)", "(-*01)", "(-* 2)",
            "(-*2 )",
            "(- *2)", "(-*2*3)", "(-*2 -)", "(- -*2)", "(-*1.0)", "(-*1e3)", "(-*1_0)", "(-*x)", "(-*\u0662)",
            "(-*\u00b2)", "(-*2\n)",
            "(-\n-)", "(-,-)", "{- -}", "tie", "(tie tie)", "((- -)", "(- -))", "([- -) -]", "-*2", "- *2",
            "(-*2)(-*2)", f"(-*{FAR + 1})",
            f"(-*{10 ** 399})", "(-*" + "9" * 6000 + ")", "(-*0" + "1" * 6000 + ")", "(" * 20000, "[" * 20000,
            "(-*" * 6000, "(- " * 6000,
            "-" * 20000, "(" * 9000 + "-" + ")" * 9000, "(-*1" * 5000, "[(" * 9000,
        ]
        for text in texts:
            caught(self, BadText, read_term, text)
            caught(self, BadText, read_term, value=text)

    def test_what_is_no_string(self):
        for value in ODD_VALUES + (THREEFOLD, ["-"], ("-",), b"-", {"-": 1}):
            caught(self, BadText, read_term, value)

    def test_20_deep_and_21(self):
        for word in WORDS:
            text = term_text(deep(20, word))
            self.assertEqual(read_term(text), deep(20, word))
            for more in (f"({text} -)", f"[- {text}]", f"({text}*3)", f"[{text}*1]"):
                caught(self, BadText, read_term, more)
        text = term_text(deep(19))
        self.assertEqual(read_term(f"[{text} {text}]"), ("side", deep(19), deep(19)))

    def test_one_sign_changed(self):
        rng = random.Random(383)
        signs = "()[]-* 0123456789\n,a"
        fine = 0
        for _ in range(150):
            text = term_text(some_term(rng, 4, 30))
            for _ in range(20):
                k, sign = rng.randrange(len(text) + 1), rng.choice(signs)
                more = [text[:k] + text[k + 1:], text[:k] + sign + text[k:], text[:k] + text[k:k + 1] + text[k:]]
                more += [text[:k] + sign + text[k + 1:], text[:k] + text[k:k + 2][::-1] + text[k + 2:]]
                for other in more:
                    try:
                        term = read_term(other)
                    except BadText:
                        continue
                    fine += 1
                    self.assertIsNone(term_error(term))
                    self.assertEqual(term_text(term), other)
        self.assertGreater(fine, 100)

    def test_thousands_of_signs(self):
        text = term_text(wide(3997))
        self.assertGreater(len(text), 3000)
        for k in range(0, len(text), 97):
            for other in (text[:k] + text[k + 1:], text[:k] + ")" + text[k:], text[:k]):
                caught(self, BadText, read_term, other)

    def test_calls(self):
        for value in ("(- -)", "(- -", None, ["-"], "[-*3]"):
            check_call(self, read_term, {"value": value})


def turned(term):
    """Return the term with rows and sides exchanged."""
    words = {"row": "side", "side": "row", "rows": "sides", "sides": "rows"}
    if term == "tie":
        return term
    word, part, behind = term
    return (words[word], turned(part), turned(behind) if type(behind) is not int else behind)


class What_holds(unittest.TestCase):
    def test_rows_and_sides_exchanged(self):
        rng = random.Random(384)
        for term in all_terms(2) + [some_term(rng, 6, FAR) for _ in range(100)]:
            many, word = term_type(term)
            self.assertEqual(term_type(turned(term)), (many, {"open": "one", "tie": "tie", "one": "open"}[word]))

    def test_m_times(self):
        rng = random.Random(385)
        for term in [some_term(rng, 4, 9) for _ in range(200)]:
            many, word = term_type(term)
            for m in (1, 2, 3, 10, 11, FAR):
                for fold, leaving in (("rows", "one"), ("sides", "open")):
                    if word == "tie":
                        want = (m * many, "tie" if m % 2 else leaving)
                    else:
                        want = (m * many, word) if word == leaving else (m * many + m - 1, word)
                    self.assertEqual(term_type((fold, term, m)), want)

    def test_poles_exchanged(self):
        for term in all_terms(2)[::2]:
            if term_size(term)[0] <= 12 and term_size(term)[1] <= 40:
                self.assertEqual(pole_type(term_web(term), 1, 0), term_type(term))


if __name__ == "__main__":
    unittest.main()
