"""Webs with any order of ties round each place: faces, turn walks, and the holes of the surface that they need."""

from botheven.steps import face_rows, walk_rows


def all_faces(table):
    """Return the ascending tuple of all faces."""
    return face_rows(table)


def all_walks(table):
    """Return the ascending tuple of all turn walks."""
    return walk_rows(table)


def holes(table):
    """Return how many holes the surface needs."""
    many, ties = table[0]
    return (2 - many + len(ties) - len(face_rows(table))) // 2
