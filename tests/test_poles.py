"""[A3], [P1] to [P3], [P8]: webs with two poles, in a row and side by side."""

import itertools
import random
import unittest

from botheven.errors import Unfit
from botheven.evens import lot_many
from botheven.poles import in_row, pole_type, side_by_side
from botheven.sorts import left_out, pinched, sort_of
from tests.oracles import CROWDED, DOUBLED, FULL, KITE, ROW, TRIO, WIDE
from tests.oracles import bent_webs, check_call, joined, large_webs, random_web, some_webs

WORDS = ("open", "tie", "one")
FAR = 10 ** 30


def type_by_hand(web, one, other):
    """Return the type of the web with these poles, by trying all colours of its places."""
    neither, words = 0, set()
    for colours in itertools.product((0, 1), repeat=web[0]):
        odd = [sum(colours[tie[0]] != colours[tie[1]] for tie in web[1] if place in tie) % 2 for place in range(web[0])]
        if any(odd[place] for place in range(web[0]) if place not in (one, other)):
            continue
        assert odd[one] == odd[other]
        flow, push = odd[one] == 1, colours[one] != colours[other]
        if push or flow:
            words.add({(True, False): "open", (True, True): "tie", (False, True): "one"}[push, flow])
        elif colours[one] == 0:
            neither += 1
    assert len(words) == 1 and bin(neither).count("1") == 1
    return (neither.bit_length() - 1, words.pop())


def pole_pairs(web):
    return list(itertools.permutations(range(web[0]), 2))


def small_webs():
    rng = random.Random(370)
    found = some_webs()[::2] + bent_webs()[::2] + [FULL, KITE, TRIO]
    found += [(5, ROW[1][:4] * 2), (5, ROW[1][:4] * 2 + ((0, 4),)), (6, ROW[1][:5] + ROW[1][:3] * 3)]
    return [web for web in found + [random_web(rng, 7, 12) for _ in range(4)] if web[0] > 1]


def laid(first, poles, second, others, both):
    """Return two webs made one: the second pole and the first one made one place, for both all poles; and the poles."""
    names = {poles[1]: "middle", poles[0]: "start"}
    more = {others[0]: "start" if both else "middle", others[1]: "middle" if both else "goal"}
    ties = [tuple(names.get(end, ("first", end)) for end in tie) for tie in first[1]]
    ties += [tuple(more.get(end, ("second", end)) for end in tie) for tie in second[1]]
    places = sorted({str(end) for tie in ties for end in tie})
    web = (len(places), tuple(tuple(sorted(places.index(str(end)) for end in tie)) for tie in ties))
    return web, places.index("start"), places.index("middle" if both else "goal")


class Type(unittest.TestCase):
    def test_held_against_all_colours(self):
        found = set()
        for web in small_webs():
            for one, other in pole_pairs(web):
                told = pole_type(web, one, other)
                self.assertEqual(told, type_by_hand(web, one, other))
                self.assertEqual(repr(told), repr((int(told[0]), str(told[1]))))
                self.assertEqual(pole_type(web, other, one), told)
                found.add(told)
        self.assertTrue({(many, word) for many in (0, 1, 2) for word in WORDS} <= found)

    def test_ties_between_the_poles(self):
        for many in range(1, 41):
            self.assertEqual(pole_type((2, ((0, 1),) * many), 0, 1), (0, "tie" if many % 2 else "open"))
        for web in small_webs():
            if len(web[1]) > 38:
                continue
            one, other = 0, web[0] - 1
            many, word = pole_type(web, one, other)
            more = pole_type((web[0], web[1] + ((one, other),)), one, other)
            self.assertEqual(more, (many, {"open": "tie", "tie": "open", "one": "one"}[word]))

    def test_great_webs(self):
        rng = random.Random(371)
        for web in large_webs() + [CROWDED, WIDE, ROW, DOUBLED]:
            for one, other in rng.sample(pole_pairs(web), min(3, web[0])) if web[0] > 2 else [(0, 1), (1, 0)]:
                self.assertEqual(pole_type(web, one, other), type_by_hand(web, one, other))

    def test_calls(self):
        for web in (KITE, CROWDED, (2, ((0, 1),))):
            for one, other in ((0, 1), (1, 0)):
                check_call(self, pole_type, {"web": web, "one": one, "other": other})


class Together(unittest.TestCase):
    def test_all_pairs_of_words(self):
        row = {
            ("open", "open"): (1, "open"), ("open", "tie"): (0, "open"), ("open", "one"): (0, "open"),
            ("tie", "open"): (0, "open"), ("tie", "tie"): (0, "one"), ("tie", "one"): (0, "tie"),
            ("one", "open"): (0, "open"), ("one", "tie"): (0, "tie"), ("one", "one"): (0, "one"),
        }
        side = {
            ("one", "one"): (1, "one"), ("one", "tie"): (0, "one"), ("one", "open"): (0, "one"),
            ("tie", "one"): (0, "one"), ("tie", "tie"): (0, "open"), ("tie", "open"): (0, "tie"),
            ("open", "one"): (0, "one"), ("open", "tie"): (0, "tie"), ("open", "open"): (0, "open"),
        }
        for call, rules in ((in_row, row), (side_by_side, side)):
            for words in itertools.product(WORDS, repeat=2):
                more, word = rules[words]
                for one, other in ((0, 0), (0, 3), (4, 1), (FAR, 7), (FAR, FAR), (0, 10 ** 399)):
                    want = (one + other + more, word)
                    self.assertEqual(call((one, words[0]), (other, words[1])), want)
                    self.assertEqual(call(second=(other, words[1]), first=(one, words[0])), want)
                    self.assertIs(type(call((one, words[0]), (other, words[1]))[0]), int)

    def test_held_against_webs_put_together(self):
        rng = random.Random(372)
        webs = [web for web in small_webs() if web[0] < 6]
        found = set()
        for _ in range(250):
            first, second = rng.choice(webs), rng.choice(webs)
            poles, others = rng.choice(pole_pairs(first)), rng.choice(pole_pairs(second))
            kinds = (pole_type(first, *poles), pole_type(second, *others))
            for call, both in ((in_row, False), (side_by_side, True)):
                found.add((call.__name__, kinds[0][1], kinds[1][1]))
                self.assertEqual(type_by_hand(*laid(first, poles, second, others, both)), call(*kinds))
        self.assertEqual(len(found), 18)

    def test_calls(self):
        for call in (in_row, side_by_side):
            check_call(self, call, {"first": (2, "tie"), "second": (0, "one")})


class What_holds(unittest.TestCase):
    def test_b_by_the_type(self):
        for web in small_webs():
            for one, other in pole_pairs(web):
                many, word = pole_type(web, one, other)
                self.assertEqual(lot_many(web), many + (word == "open"))
                if (min(one, other), max(one, other)) not in web[1] and len(web[1]) < 40:
                    made_one = pinched((web[0], web[1] + ((min(one, other), max(one, other)),)), len(web[1]))
                    self.assertEqual(lot_many(made_one), many + (word == "one"))

    def test_sorts_of_ties(self):
        sorts = set()
        for web in small_webs():
            for tie, (one, other) in enumerate(web[1]):
                rest = (web[0], web[1][:tie] + web[1][tie + 1:])
                if joined(rest):
                    word = pole_type(left_out(web, tie), one, other)[1]
                    self.assertEqual(sort_of(web, tie), {"open": "cut", "tie": "both", "one": "round"}[word])
                    sorts.add(word)
                else:
                    self.assertRaises(Unfit, left_out, web, tie)
        self.assertEqual(sorts, set(WORDS))


if __name__ == "__main__":
    unittest.main()
