"""[A3] to [A6]: webs, what stands at their places, and their texts."""

import random
import unittest

from botheven.errors import BadText
from botheven.webs import matrix_of, ties_at, web_error
from botheven.webtexts import read_web, web_text
from tests.oracles import ALONE, CROWDED, DOUBLED, KITE, ODD_VALUES, ROW, TRIPLE, WIDE
from tests.oracles import caught, check_call, joined, random_web, some_webs

BIG = (ROW, DOUBLED, CROWDED, WIDE)


def whole(value):
    return type(value) is int


def slow_error(value):
    """Return what web_error tells, in the document's order."""
    if type(value) is not tuple or len(value) != 2:
        return "form"
    many, ties = value
    if not whole(many) or many < 1 or many > 12 or type(ties) is not tuple or len(ties) > 40:
        return "form"
    for k, item in enumerate(ties):
        if type(item) is not tuple or len(item) != 2 or not all(whole(place) for place in item):
            return ("tie", k)
        if not 0 <= item[0] < item[1] < many:
            return ("tie", k)
    return None if joined(value) else "apart"


class WebError(unittest.TestCase):
    def test_webs(self):
        rng = random.Random(2)
        for web in BIG + tuple(some_webs()):
            self.assertIsNone(web_error(web))
        for many in range(1, 13):
            for count in (many - 1, min(40, 3 * many) if many > 1 else 0):
                self.assertIsNone(web_error(random_web(rng, many, count)))
        self.assertIsNone(web_error((2, ((0, 1),) * 40)))

    def test_form(self):
        pair = ((0, 1),)
        wrong = (
            (0, ()), (-1, ()), (13, ()), (13, ROW[1] + ((11, 12),)), (2, pair * 41), [2, pair], (2, list(pair)),
            (2,), (2, pair, ()), (True, ()), (False, ()), (None, ()), ("1", ()), (1, None), (1, ""), (1, {}), None,
            "2: 0-1", (10 ** 30, ()), ((), 1),
        )
        for value in wrong:
            self.assertEqual(web_error(value), "form", value)

    def test_first_wrong_tie(self):
        for item in ((1, 0), (1, 1), (0, 3), (-1, 0), (0,), (0, 1, 2), [0, 1], None, 1, "01", (False, 1), (0, True),
                     (0, None), ("0", "1"), ((0,), 1), {}):
            self.assertEqual(web_error((3, (item,))), ("tie", 0), item)
            self.assertEqual(web_error((3, ((0, 1), (1, 2), item, (0, 5)))), ("tie", 2), item)
            self.assertEqual(web_error((3, ((0, 1),) * 39 + (item,))), ("tie", 39), item)
        self.assertEqual(web_error((1, ((0, 0),))), ("tie", 0))
        self.assertEqual(web_error((1, ((0, 1),))), ("tie", 0))

    def test_apart(self):
        for web in ((2, ()), (12, ()), (3, ((0, 1), (0, 1))), (3, ((1, 2),)), (4, ((0, 1), (2, 3))),
                    (5, ((0, 1), (1, 2), (0, 2), (3, 4))), (12, ROW[1][:10]), (12, ROW[1][1:])):
            self.assertEqual(web_error(web), "apart")

    def test_order(self):
        self.assertEqual(web_error((13, ((1, 0),))), "form")
        self.assertEqual(web_error((3, ((1, 0),) * 41)), "form")
        self.assertEqual(web_error((4, ((2, 3), (1, 0)))), ("tie", 1))

    def test_any_value(self):
        for value in ODD_VALUES:
            self.assertEqual(repr(web_error(value)), repr(slow_error(value)))
            check_call(self, web_error, {"value": value})
            for pair in ((3, value), (value, ()), (3, (value,)), (3, ((0, 1), (1, 2), value)), (3, ((0, value),)),
                         (2, ((value, 1),))):
                self.assertEqual(repr(web_error(pair)), repr(slow_error(pair)))

    def test_webs_with_one_tie_changed(self):
        rng = random.Random(3)
        for _ in range(500):
            many = rng.randint(1, 5)
            ties = tuple((rng.randint(-1, many), rng.randint(-1, many)) for _ in range(rng.randint(0, 5)))
            self.assertEqual(web_error((many, ties)), slow_error((many, ties)))


class TiesAndMatrix(unittest.TestCase):
    def test_ties_at(self):
        for web in BIG + tuple(some_webs()):
            for place in range(web[0]):
                told = tuple(k for k in range(len(web[1])) if place in web[1][k])
                self.assertEqual(ties_at(web, place), told)
                self.assertEqual(ties_at(web=web, place=place), told)
        self.assertEqual(ties_at(ALONE, 0), ())
        self.assertEqual(ties_at(WIDE, 11), (10,) + tuple(range(11, 40)))
        check_call(self, ties_at, {"web": KITE, "place": 2})

    def test_matrix_of(self):
        for web in BIG + tuple(some_webs()):
            matrix = matrix_of(web)
            self.assertIs(type(matrix), tuple)
            self.assertEqual(len(matrix), web[0])
            for one, row in enumerate(matrix):
                self.assertIs(type(row), tuple)
                self.assertEqual(row[one], len(ties_at(web, one)))
                self.assertEqual(sum(row), 0)
                for other in range(web[0]):
                    if other != one:
                        pair = (min(one, other), max(one, other))
                        self.assertEqual(row[other], -web[1].count(pair))
                    self.assertEqual(row[other], matrix[other][one])
            check_call(self, matrix_of, {"web": web})
        self.assertEqual(matrix_of(ALONE), ((0,),))
        self.assertEqual(matrix_of(WIDE)[0][11], -29)
        self.assertEqual(matrix_of((2, ((0, 1),) * 40)), ((40, -40), (-40, 40)))


class Texts(unittest.TestCase):
    def test_there_and_back(self):
        texts = {}
        for web in BIG + tuple(some_webs()):
            text = web_text(web)
            self.assertEqual(read_web(text), web)
            self.assertEqual(texts.setdefault(text, web), web)
            check_call(self, web_text, {"web": web})
            check_call(self, read_web, {"value": text})
        self.assertEqual(web_text(WIDE), "12:" + "".join(f" {k}-{k + 1}" for k in range(11)) + " 0-11" * 29)
        self.assertEqual(read_web("1:"), ALONE)

    def test_unlike_webs_have_unlike_texts(self):
        webs = set(some_webs())
        self.assertEqual(len({web_text(web) for web in webs}), len(webs))

    def test_texts_with_one_sign_wrong(self):
        for web in (ALONE, TRIPLE, KITE, (3, ((0, 1), (1, 2))), ROW):
            text = web_text(web)
            wrong = [text[:k] + text[k + 1:] for k in range(len(text))]
            for sign in "0123456789 -:\nx+":
                wrong += [text[:k] + sign + text[k:] for k in range(len(text) + 1)]
                wrong += [text[:k] + sign + text[k + 1:] for k in range(len(text))]
            wrong += [text[:k] + text[k + 1] + text[k] + text[k + 2:] for k in range(len(text) - 1)]
            for value in wrong:
                self.check_reading(value)

    def check_reading(self, value):
        """Check that value is read as the web that has it as its text, or as none."""
        try:
            web = read_web(value)
        except BadText:
            return
        self.assertIsNone(slow_error(web))
        self.assertEqual(web_text(web), value)

    def test_bad_texts(self):
        wrong = (
            "", ":", "1", "1: ", " 1:", "1:\n", "01:", "0:", "00:", "13:", "2:", "2: 0-1 ", "2:  0-1", "2:0-1", "2 0-1",
            "2: 0-1\n", "\n2: 0-1", "2: 1-0", "2: 0-0", "2: 0-2", "2: 00-1", "2: 0-01", "02: 0-1", "2: 0-1 1", "2: 01",
            "2: 0--1", "2: -0-1", "2: 0-1-", "2: 0- 1", "2: 0 -1", "2:\t0-1", "2: +0-1", "+2: 0-1", "2: 0-1,0-1",
            "3: 0-1", "3: 0-1 0-1", "4: 0-1 2-3", "2:" + " 0-1" * 41, "2:" + " 0-1" * 4000, "13:" + " 0-1",
            "1" * 20000, "2: 0-" + "1" * 19000, "2: 0-1 :", "2:: 0-1", "2: 0-1\n0-1", "None", "2: a-b", "2: 0_1",
            "12: 0-1 1-2 2-3 3-4 4-5 5-6 6-7 7-8 8-9 9-10 10-12",
        )
        for value in wrong:
            caught(self, BadText, read_web, value)
        self.assertEqual(read_web("2:" + " 0-1" * 40), (2, ((0, 1),) * 40))
        self.assertEqual(read_web("12: 0-1 1-2 2-3 3-4 4-5 5-6 6-7 7-8 8-9 9-10 10-11"), ROW)

    def test_no_string(self):
        for value in ODD_VALUES:
            if value in ("1:", "2: 0-1"):
                continue
            caught(self, BadText, read_web, value)
        caught(self, BadText, read_web, KITE)
        caught(self, BadText, read_web, value=[web_text(KITE)])


if __name__ == "__main__":
    unittest.main()
