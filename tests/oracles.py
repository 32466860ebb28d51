"""Webs to test with, and slow answers that follow the document's words step by step."""

import copy
import functools
import itertools
import random

from botheven import errors

KITE = (4, ((0, 1), (1, 2), (2, 3), (0, 3), (0, 2)))
TRIPLE = (2, ((0, 1), (0, 1), (0, 1)))
TRIANGLE = (3, ((0, 1), (0, 2), (1, 2)))
SQUARE = (4, ((0, 1), (1, 2), (2, 3), (0, 3)))
FULL = (4, ((0, 1), (0, 2), (0, 3), (1, 2), (1, 3), (2, 3)))
BOW = (5, ((0, 1), (1, 2), (0, 2), (0, 3), (3, 4), (0, 4)))
FAT = (2, ((0, 1),) * 4)
TAIL = (5, KITE[1] + ((3, 4),))
TRIO = (5, ((0, 2), (1, 2), (0, 3), (1, 3), (0, 4), (1, 4)))
ALONE = (1, ())
ROW = (12, tuple((k, k + 1) for k in range(11)))
DOUBLED = (12, ROW[1] * 2)
CROWDED = (12, tuple(itertools.combinations(range(12), 2))[:40])
WIDE = (12, ROW[1] + ((0, 11),) * 29)

ODD_VALUES = (
    None, True, False, 0, 1, -1, 2, 10 ** 399, -10 ** 399, "", "1:", "2: 0-1", "star", "\n", "x" * 20000,
    (), (0,), (1,), (True,), (False,), (0, True), (None,), ("0",), ((),), ([],), (0, 1), (1, 0), (0, 0),
    (0, (0, 1)), ((0, 1),), [], [0], [0, 1], [1, ()], [[0, 1]], {}, {0: 1}, {"a": [1, {"b": ()}]}, (1, ()),
    (1, []), (True, ()), (2, ((False, 1),)), (2, ((False, True),)), ("star", 0, 1), ("round", (), 1), (0,) * 4000,
    tuple(range(4000)), (0, 10 ** 399), (0, 1, 2, 3, 4, 5), errors.Unfit(), errors.Thin((0,)), (errors.BothError(),),
    ("lot", (0, 1)), (({},),), ({}, []), (0, None), (0, "1"), (0, [1]), (0, -1), (-1, 0),
)


def nested(depth):
    """Return a tuple of tuples that is nested so deep."""
    value = ()
    for _ in range(depth):
        value = (value, 1)
    return value


ODD_VALUES = ODD_VALUES + (nested(39),)


def joined(web):
    """Tell whether ways lead from place 0 to all places."""
    many, ties = web
    met = {0}
    for _ in range(many):
        for one, other in ties:
            if one in met or other in met:
                met |= {one, other}
    return len(met) == many


def some_webs():
    """Return webs of all sorts that are small enough to try all their lots."""
    found = [ALONE, KITE, TRIPLE, TRIANGLE, SQUARE, FULL, BOW]
    found += [(2, ((0, 1),) * many) for many in range(1, 6)]
    pairs = ((0, 1), (0, 2), (1, 2))
    for many in (2, 3, 4):
        found += [(3, ties) for ties in itertools.product(pairs, repeat=many) if joined((3, ties))]
    rng = random.Random(1)
    for many in (4, 5, 6):
        found += [random_web(rng, many, rng.randint(many - 1, 9)) for _ in range(12)]
    return found


def random_web(rng, many, count):
    """Return a web with so many places and ties, count being large enough."""
    names = list(range(many))
    rng.shuffle(names)
    ties = [(names[rng.randrange(k)], names[k]) for k in range(1, many)]
    while len(ties) < count:
        ties.append(tuple(rng.sample(range(many), 2)))
    rng.shuffle(ties)
    return (many, tuple(tuple(sorted(tie)) for tie in ties))


def row(web, lot):
    return tuple(1 if tie in lot else 0 for tie in range(len(web[1])))


def all_lots_of(web):
    """Return all lots of the web, in order."""
    numbers = range(len(web[1]))
    found = [lot for many in range(len(web[1]) + 1) for lot in itertools.combinations(numbers, many)]
    return sorted(found, key=lambda lot: row(web, lot))


def even(web, lot):
    return all(sum(web[1][tie].count(place) for tie in lot) % 2 == 0 for place in range(web[0]))


def even_lots(web):
    return [lot for lot in all_lots_of(web) if even(web, lot)]


@functools.lru_cache(None)
def all_cuts(web):
    """Return a dict: each cut, with the places without 0 whose cut it is."""
    found = {}
    for many in range(web[0]):
        for places in itertools.combinations(range(1, web[0]), many):
            cut = tuple(k for k, (one, other) in enumerate(web[1]) if (one in places) != (other in places))
            found[cut] = places
    return found


@functools.lru_cache(None)
def all_rounds_of(web):
    """Return all even lots of which no part but () and itself is even, in order."""
    evens = [lot for lot in even_lots(web) if lot]
    return [lot for lot in evens if not any(set(part) < set(lot) for part in evens)]


def both_even_lots(web):
    """Return all lots with an even number of ties at each place and on each round, in order."""
    found = all_rounds_of(web)
    return [lot for lot in even_lots(web) if not any(len(set(lot) & set(one)) % 2 for one in found)]


def even_cuts(web):
    """Return all cuts that are even, in order: what [F1] says that both-even lots are."""
    return sorted([cut for cut in all_cuts(web) if even(web, cut)], key=lambda lot: row(web, lot))


def added(*lots):
    """Return the sum of lots."""
    total = set()
    for lot in lots:
        total ^= set(lot)
    return tuple(sorted(total))


def caught(test, kind, call, *args, **named):
    """Return the error that a call raises, which is just of this kind."""
    with test.assertRaises(errors.BothError) as held:
        call(*args, **named)
    test.assertIs(type(held.exception), kind)
    return held.exception


def check_call(test, call, named):
    """Check that a call by place and by name, twice, is the same, and changes nothing it is passed."""
    kept = copy.deepcopy(named)
    shown = repr(named)
    first = outcome(call, *named.values())
    test.assertEqual(outcome(call, **named), first)
    test.assertEqual(outcome(call, **kept), first)
    test.assertEqual(repr(named), shown)


def outcome(call, *args, **named):
    """Return in words what a call returns or raises."""
    try:
        return repr(call(*args, **named))
    except errors.BothError as error:
        return f"raises {type(error).__name__} {vars(error)!r}"


def slow_done(web, numbers, deeds):
    """Return the numbers behind deeds, each checked to be a deed."""
    numbers = list(numbers)
    for word, target, times in deeds:
        if word == "star":
            assert type(target) is int and 0 <= target < web[0]
            touched = [k for k in range(len(web[1])) if target in web[1][k]]
        else:
            assert word == "round" and one_closed_way(web, target)
            touched = target
        assert type(times) is int and times != 0
        for tie in touched:
            numbers[tie] += times
    return tuple(numbers)


def one_closed_way(web, lot):
    """Tell whether the ties of the lot make one closed way that meets no place twice."""
    if lot == () or list(lot) != sorted(set(lot)):
        return False
    start, place = web[1][lot[0]]
    met, left = [start], list(lot[1:])
    while place != start:
        along = [tie for tie in left if place in web[1][tie]]
        if place in met or len(along) != 1:
            return False
        met.append(place)
        left.remove(along[0])
        place = sum(web[1][along[0]]) - place
    return left == []


def thick_webs():
    """Return webs in which each cut but () has three ties or more, by trying all cuts."""
    wheel = (6, tuple((0, k) for k in range(1, 6)) + ((1, 2), (2, 3), (3, 4), (4, 5), (1, 5)))
    sides = (6, tuple((one, other) for one in range(3) for other in range(3, 6)))
    five = (5, tuple(itertools.combinations(range(5), 2)))
    cube = (8, tuple((one, one + step) for one in range(8) for step in (1, 2, 4) if one & step == 0))
    chain = (4, ((0, 1),) * 3 + ((1, 2),) * 4 + ((2, 3),) * 3)
    found = [ALONE, TRIPLE, FULL, wheel, sides, five, cube, chain] + [(2, ((0, 1),) * many) for many in (4, 5, 6)]
    rng = random.Random(7)
    while len(found) < 40:
        many = rng.randint(3, 6)
        web = random_web(rng, many, rng.randint(2 * many - 1, 3 * many))
        if is_thick(web):
            found.append(web)
    circle = tuple(tuple(sorted((k, (k + step) % 12))) for k in range(12) for step in (1, 2, 3))
    for web in ((12, circle), (12, circle + ((0, 6), (1, 7), (0, 1), (0, 1))), (12, ROW[1] * 3)):
        assert is_thick(web)
        found.append(web)
    return found


def is_thick(web):
    return all(len(cut) > 2 for cut in all_cuts(web) if cut)


def grown_web(rng, most):
    """Return a web of at most so many places, grown by ties cut in two, doubled and hung on: with many slopes."""
    many, ties = 2, [(0, 1)] * rng.randint(1, 4)
    while many < most and len(ties) < 39 and rng.random() < 0.95:
        deed, tie = rng.choice("cchd"), rng.randrange(len(ties))
        if deed == "d":
            ties.append(ties[tie])
            continue
        ends = ties.pop(tie) if deed == "c" else (rng.randrange(many), rng.randrange(many))
        ties += [(end, many) for end in ends[:2 if deed == "c" or rng.random() < 0.6 else 1]]
        many += 1
    names = list(range(many))
    rng.shuffle(names)
    rng.shuffle(ties)
    return (many, tuple(tuple(sorted((names[one], names[other]))) for one, other in ties))


def bent_webs():
    """Return webs with bridges, fellows and slopes, small enough to try all their lots."""
    rng = random.Random(30)
    found = [TAIL, TRIO, SQUARE, (2, ((0, 1),) * 2), (2, ((0, 1),)), (7, ROW[1][:6]), (5, ROW[1][:4] * 2)]
    found += [(6, ((0, 1), (1, 2), (0, 2), (2, 3), (3, 4), (3, 5), (4, 5)))]
    while len(found) < 60:
        web = grown_web(rng, 7)
        if len(web[1]) < 10:
            found.append(web)
    return found


def large_webs():
    """Return webs of 12 places, with few ties and with 40."""
    rng = random.Random(31)
    found = [ROW, DOUBLED, CROWDED, WIDE, (2, ((0, 1),) * 40)]
    found += [random_web(rng, 12, count) for count in (11, 12, 13, 14, 16, 18, 20, 24, 30, 40)]
    return found + [grown_web(rng, 12) for _ in range(10)]


def stars_of(web):
    """Return for each place the lot of its ties."""
    return [tuple(k for k in range(len(web[1])) if place in web[1][k]) for place in range(web[0])]


def lattice(vectors):
    """Return an echelon base of all sums of integer multiples of the vectors."""
    found, left = [], [list(vector) for vector in vectors]
    for column in range(len(left[0]) if left else 0):
        while True:
            some = sorted((one for one in left if one[column]), key=lambda one: abs(one[column]))
            left = [one for one in left if not one[column]]
            if len(some) < 2:
                break
            for one in some[1:]:
                times = one[column] // some[0][column]
                left.append([item - times * off for item, off in zip(one, some[0])])
            left.append(some[0])
        found += [(column, one) for one in some]
    return found


def in_lattice(base, vector):
    """Tell whether the vector is a sum of integer multiples of the base."""
    left = list(vector)
    for column, one in base:
        if left[column] % one[column]:
            return False
        times = left[column] // one[column]
        left = [item - times * off for item, off in zip(left, one)]
    return not any(left)


def dot(one, other):
    return sum(item * off for item, off in zip(one, other))


def less_by(one, other):
    return tuple(off - item for item, off in zip(one, other))


def random_standing(rng, web, low, high):
    return tuple(rng.randint(low, high) for _ in web[1])
