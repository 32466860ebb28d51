"""Steps along the ties of a table, be it flat or not, and how they go on.

A step is a pair of a tie and of a side: 0 from its lesser end to its greater one, 1 the other way.
"""


def step_from(web, tie, place):
    """Return the step along the tie that begins at this end."""
    return (tie, web[1][tie].index(place))


def next_step(table, step, by):
    """Return the step that goes on from the goal along the tie so many places behind the step's own."""
    web, turns = table
    tie, side = step
    goal = web[1][tie][1 - side]
    ties = turns[goal]
    return step_from(web, ties[(ties.index(tie) + by) % len(ties)], goal)


def all_steps(web):
    """Return the ascending tuple of all steps."""
    return tuple([(tie, side) for tie in range(len(web[1])) for side in (0, 1)])


def face_rows(table):
    """Return the ascending tuple of all faces."""
    found, met = [], {}
    for step in all_steps(table[0]):
        row = []
        # Each step follows just one, so what begins here comes back here, unless all of it is met already.
        while step not in met:
            met[step] = True
            row.append(step)
            step = next_step(table, step, 1)
        if row:
            found.append(tuple(row))
    return tuple(found)


def _next_turn(table, triple):
    """Return the triple with which a walk goes on."""
    tie, side, turn = triple
    goes_on = next_step(table, (tie, side), 1 - 2 * turn)
    return goes_on + (1 - turn,)


def walk_rows(table):
    """Return the ascending tuple of all turn walks."""
    found, met = [], {}
    # The least triple that is not met begins the least tuple of its walk, gone that way about.
    for triple in [(tie, side, turn) for tie, side in all_steps(table[0]) for turn in (0, 1)]:
        row = []
        while triple not in met:
            tie, side, turn = triple
            # Gone backward it is the same walk, which never has both.
            met[triple] = True
            met[(tie, 1 - side, turn)] = True
            row.append(triple)
            triple = _next_turn(table, triple)
        if row:
            found.append(tuple(row))
    return tuple(found)


def row_web(web, rows):
    """Return a pair like a web: how many faces or walks there are, and for each tie the two that go along it.

    What goes along a tie twice stands twice in its pair, so the tie is in no cut.
    """
    pairs = [[] for _ in web[1]]
    for number, row in enumerate(rows):
        for step in row:
            pairs[step[0]].append(number)
    return len(rows), tuple([tuple(pair) for pair in pairs])
