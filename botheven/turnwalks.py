"""Turn walks: they go along the ties of a flat drawing and turn one way and the other by turns."""

from botheven.lots import cut_of, places_of_cut
from botheven.steps import all_steps, next_step


def _next_turn(drawing, triple):
    """Return the triple with which a walk goes on."""
    tie, side, turn = triple
    goes_on = next_step(drawing, (tie, side), 1 - 2 * turn)
    return goes_on + (1 - turn,)


def turn_walks(drawing):
    """Return the ascending tuple of all turn walks."""
    found, met = [], {}
    # The least triple that is not met begins the least tuple of its walk, gone that way about.
    for triple in [(tie, side, turn) for tie, side in all_steps(drawing[0]) for turn in (0, 1)]:
        row = []
        while triple not in met:
            tie, side, turn = triple
            # Gone backward it is the same walk, which never has both.
            met[triple] = True
            met[(tie, 1 - side, turn)] = True
            row.append(triple)
            triple = _next_turn(drawing, triple)
        if row:
            found.append(tuple(row))
    return tuple(found)


def _walk_web(drawing):
    """Return a pair like a web: how many walks there are, and for each tie the walks that go along it.

    A walk that goes along a tie twice stands twice in its pair, so the tie is in no cut.
    """
    found = turn_walks(drawing)
    pairs = [[] for _ in drawing[0][1]]
    for number, row in enumerate(found):
        for tie, _, _ in row:
            pairs[tie].append(number)
    return len(found), tuple([tuple(pair) for pair in pairs])


def lot_of_walks(drawing, some):
    """Return the lot of the ties that these walks go along just once in all."""
    return cut_of(_walk_web(drawing), some)


def walks_of_lot(drawing, lot):
    """Return the numbers without 0 of the walks whose lot it is."""
    # Just the both-even lots are the lots of walks, so what is none is no cut here.
    return places_of_cut(_walk_web(drawing), lot)
