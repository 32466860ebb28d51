"""Steps along the ties of a drawing, and how they go on.

A step is a pair of a tie and of a side: 0 from its lesser end to its greater one, 1 the other way.
"""


def step_from(web, tie, place):
    """Return the step along the tie that begins at this end."""
    return (tie, web[1][tie].index(place))


def next_step(drawing, step, by):
    """Return the step that goes on from the goal along the tie so many places behind the step's own."""
    web, turns = drawing
    tie, side = step
    goal = web[1][tie][1 - side]
    ties = turns[goal]
    return step_from(web, ties[(ties.index(tie) + by) % len(ties)], goal)


def all_steps(web):
    """Return the ascending tuple of all steps."""
    return tuple([(tie, side) for tie in range(len(web[1])) for side in (0, 1)])


def face_rows(drawing):
    """Return the ascending tuple of all faces."""
    found, met = [], {}
    for step in all_steps(drawing[0]):
        row = []
        # Each step follows just one, so what begins here comes back here, unless all of it is met already.
        while step not in met:
            met[step] = True
            row.append(step)
            step = next_step(drawing, step, 1)
        if row:
            found.append(tuple(row))
    return tuple(found)
