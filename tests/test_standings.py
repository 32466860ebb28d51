"""[A3], [B1], [B2]: standings and their differences."""

import random
import unittest

from botheven.standings import difference, standing_error
from tests.oracles import ALONE, KITE, ODD_VALUES, TRIPLE, WIDE
from tests.oracles import check_call

FAR = 10 ** 12


def slow_error(web, value):
    """Return what standing_error tells, in the document's words."""
    if type(value) is not tuple or len(value) != len(web[1]):
        return "form"
    for place, item in enumerate(value):
        if type(item) is not int or abs(item) > FAR:
            return ("item", place)
    return None


class StandingError(unittest.TestCase):
    def test_standings(self):
        for value in ((0, 0, 0), (FAR, -FAR, 0), (-FAR,) * 3, (1, -2, 3)):
            self.assertIsNone(standing_error(TRIPLE, value))
        self.assertIsNone(standing_error(ALONE, ()))
        self.assertIsNone(standing_error(WIDE, (7,) * 40))

    def test_form(self):
        for value in (None, True, 0, "000", [0, 0, 0], (), (0, 0), (0, 0, 0, 0), {0: 0, 1: 0, 2: 0}, (0, True)):
            self.assertEqual(standing_error(TRIPLE, value), "form")
        self.assertEqual(standing_error(ALONE, (0,)), "form")
        self.assertEqual(standing_error(ALONE, []), "form")

    def test_first_wrong_item(self):
        for item in (FAR + 1, -FAR - 1, True, False, None, "0", (), (0,), [0], {}, 10 ** 399):
            for place in range(3):
                value = (0,) * place + (item,) + (None,) * (2 - place)
                self.assertEqual(standing_error(TRIPLE, value), ("item", place))

    def test_any_value(self):
        for value in ODD_VALUES:
            for web in (ALONE, TRIPLE, KITE, (2, ((0, 1), (0, 1)))):
                self.assertEqual(repr(standing_error(web, value)), repr(slow_error(web, value)))
                check_call(self, standing_error, {"web": web, "value": value})
            self.assertEqual(repr(standing_error(TRIPLE, (0, value, 0))), repr(slow_error(TRIPLE, (0, value, 0))))


class Difference(unittest.TestCase):
    def test_there_and_back(self):
        rng = random.Random(8)
        for many in (0, 1, 5, 40):
            for _ in range(20):
                one = tuple(rng.randint(-FAR, FAR) for _ in range(many))
                other = tuple(rng.randint(-FAR, FAR) for _ in range(many))
                there, back = difference(one, other), difference(other, one)
                self.assertEqual(tuple(a + b for a, b in zip(one, there)), other)
                self.assertEqual(tuple(a + b for a, b in zip(other, back)), one)
                self.assertEqual(there, tuple(-number for number in back))
                check_call(self, difference, {"one": one, "other": other})
        self.assertEqual(difference((-FAR, FAR), (FAR, -FAR)), (2 * FAR, -2 * FAR))
        self.assertEqual(difference((), ()), ())
        self.assertEqual(difference(one=(1,), other=(3,)), (2,))


if __name__ == "__main__":
    unittest.main()
