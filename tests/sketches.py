"""Drawings to test with, and slow answers about faces and turn walks that follow the document's words."""

import itertools
import random

from tests.oracles import BOW, CROWDED, DOUBLED, FULL, KITE, TAIL, TRIO, WIDE, grown_web, random_web


def behind(drawing, place, tie):
    ties = drawing[1][place]
    return ties[(ties.index(tie) + 1) % len(ties)]


def ahead(drawing, place, tie):
    ties = drawing[1][place]
    return ties[ties.index(tie) - 1]


def goal_of(drawing, tie, side):
    return drawing[0][1][tie][1 if side == 0 else 0]


def leaving(drawing, place, tie):
    """Return the step along the tie away from the place."""
    return (tie, 0 if drawing[0][1][tie][0] == place else 1)


def follows(drawing, step):
    place = goal_of(drawing, *step)
    return leaving(drawing, place, behind(drawing, place, step[0]))


def steps_of(drawing):
    return [(tie, side) for tie in range(len(drawing[0][1])) for side in (0, 1)]


def slow_faces(drawing):
    """Return all faces, each begun with its least step."""
    found = set()
    for step in steps_of(drawing):
        row = [step]
        while follows(drawing, row[-1]) != step:
            row.append(follows(drawing, row[-1]))
        k = row.index(min(row))
        found.add(tuple(row[k:] + row[:k]))
    return tuple(sorted(found))


def goes_on(drawing, triple):
    tie, side, turn = triple
    place = goal_of(drawing, tie, side)
    along = behind(drawing, place, tie) if turn == 0 else ahead(drawing, place, tie)
    return leaving(drawing, place, along) + (1 - turn,)


def slow_walks(drawing):
    """Return all turn walks, each as the least of all that begin with any of its triples, either way."""
    found = set()
    for start in [step + (turn,) for step in steps_of(drawing) for turn in (0, 1)]:
        row = [start]
        while goes_on(drawing, row[-1]) != start:
            row.append(goes_on(drawing, row[-1]))
        back = [(tie, 1 - side, turn) for tie, side, turn in row[::-1]]
        found.add(min(tuple(one[k:] + one[:k]) for one in (row, back) for k in range(len(row))))
    return tuple(sorted(found))


def laid(rng, ties, turns):
    """Return a drawing with these ends and turns, places and ties named anew, each turn begun anywhere."""
    many = len(turns)
    names, order = list(range(many)), list(range(len(ties)))
    rng.shuffle(names)
    rng.shuffle(order)
    web = (many, tuple(tuple(sorted((names[ties[k][0]], names[ties[k][1]]))) for k in order))
    found = [None] * many
    for place, row in enumerate(turns):
        k = rng.randrange(len(row))
        found[names[place]] = tuple(order.index(tie) for tie in row[k:] + row[:k])
    return (web, tuple(found))


def grown_drawing(rng, places, count):
    """Return a flat drawing with so many places and ties, grown tie by tie within its faces."""
    ties, turns = [(0, 1)], [[0], [0]]
    while len(turns) < places or len(ties) < count:
        now = ((len(turns), tuple(tuple(sorted(pair)) for pair in ties)), tuple(tuple(row) for row in turns))
        face = rng.choice(slow_faces(now))
        step = rng.choice(face)
        place, new = goal_of(now, *step), len(ties)
        # What is laid right behind the tie along which a face comes to a place lies within this face.
        if len(turns) < places and (rng.random() < 0.6 or len(ties) >= count - (places - len(turns))):
            end = len(turns)
            turns.append([new])
        else:
            others = [other for other in face if goal_of(now, *other) != place]
            other = rng.choice(others)
            end = goal_of(now, *other)
            turns[end].insert(turns[end].index(other[0]) + 1, new)
        turns[place].insert(turns[place].index(step[0]) + 1, new)
        ties.append((place, end))
    return laid(rng, ties, turns)


def grid_drawing(high, wide):
    """Return the drawing of a grid: up, right, down, left round each place."""
    ties = [(i * wide + j, i * wide + j + 1) for i in range(high) for j in range(wide - 1)]
    ties += [(i * wide + j, i * wide + j + wide) for i in range(high - 1) for j in range(wide)]
    turns = []
    for place in range(high * wide):
        right = (place, place + 1) if (place + 1) % wide else None
        left = (place - 1, place) if place % wide else None
        pairs = ((place - wide, place), right, (place, place + wide), left)
        turns.append(tuple(ties.index(pair) for pair in pairs if pair in ties))
    return ((high * wide, tuple(ties)), tuple(turns))


def wheel_drawing(many):
    """Return the drawing of a wheel: a hub with as many places round it."""
    rim = [(k, k + 1) for k in range(1, many)] + [(1, many)]
    ties = [(0, k) for k in range(1, many + 1)] + rim
    turns = [tuple(range(many))]
    for k in range(1, many + 1):
        # Round the hub clockwise: the tie that comes from the place ahead, the one that goes on, the one to the hub.
        turns.append((many + (k - 2) % many, many + k - 1, k - 1))
    return ((many + 1, tuple(ties)), tuple(turns))


def bundle_drawing(many):
    """Return the drawing of two places with so many ties."""
    return ((2, ((0, 1),) * many), (tuple(range(many)), tuple(range(many))[::-1]))


def turned_about(drawing):
    """Return the drawing as it is seen from behind."""
    return (drawing[0], tuple(row[::-1] for row in drawing[1]))


def some_drawings():
    """Return drawings of all sorts: bridges, ties that lie several times, ladders, wheels, grids, grown ones."""
    rng = random.Random(200)
    found = [bundle_drawing(many) for many in (1, 2, 3, 4, 7, 12, 13, 40)]
    found += [grid_drawing(2, wide) for wide in range(1, 7)]
    found += [grid_drawing(3, 3), grid_drawing(3, 4), grid_drawing(1, 12)]
    found += [wheel_drawing(many) for many in range(3, 12)]
    for places in range(2, 13):
        for count in (places - 1, places, places + 2, places + 4, 2 * places, 3 * places):
            found.append(grown_drawing(rng, places, count))
    found += [grown_drawing(rng, 12, 40) for _ in range(3)] + [grown_drawing(rng, 3, 12) for _ in range(5)]
    return found + [turned_about(one) for one in found[-10:]]


def random_table(rng, web):
    """Return a table of the web with any turns."""
    turns = []
    for place in range(web[0]):
        ties = [tie for tie in range(len(web[1])) if place in web[1][tie]]
        rng.shuffle(ties)
        turns.append(tuple(ties))
    return (web, tuple(turns))


def small_tables():
    """Return tables of small webs with all turns, as long as they are few."""
    found = []
    for web in ((2, ((0, 1),)), (2, ((0, 1),) * 2), (2, ((0, 1),) * 3), (3, ((0, 1), (0, 2), (1, 2))),
                (2, ((0, 1),) * 4),
                (3, ((0, 1), (0, 1), (1, 2))), (3, ((0, 1), (0, 1), (1, 2), (1, 2))), KITE, FULL):
        around = [[tie for tie in range(len(web[1])) if place in web[1][tie]] for place in range(web[0])]
        tables = [(web, turns) for turns in itertools.product(*[itertools.permutations(ties) for ties in around])]
        found += tables[::1 + len(tables) // 60]
    return found


def bent_tables():
    """Return tables of all sorts of webs with any turns, most of them not flat."""
    rng = random.Random(341)
    found = [random_table(rng, web) for web in (TAIL, BOW, TRIO, CROWDED, DOUBLED, WIDE) for _ in range(2)]
    for places in range(2, 13):
        for count in (places - 1, places, places + 2, 2 * places, 3 * places):
            found.append(random_table(rng, random_web(rng, places, count)))
    return found + [random_table(rng, grown_web(rng, 8)) for _ in range(20)]


def doubled_drawing(many):
    """Return the drawing of so many places in a row, with two ties between neighbours."""
    web = (many, tuple((k, k + 1) for k in range(many - 1) for _ in range(2)))
    inner = tuple((2 * k - 2, 2 * k, 2 * k + 1, 2 * k - 1) for k in range(1, many - 1))
    return (web, ((0, 1),) + inner + ((2 * many - 4, 2 * many - 3),))
