"""The texts of webs."""

from botheven.bounds import MAX_PLACES
from botheven.errors import BadText
from botheven.webs import web_error


def web_text(web):
    """Return the text of a web."""
    many, ties = web
    return f"{many}:" + "".join([f" {one}-{other}" for one, other in ties])


def read_web(value):
    """Return the web of which value is the text."""
    if not isinstance(value, str):
        raise BadText()
    head, colon, tail = value.partition(":")
    many = _number(head)
    if colon == "" or many is None:
        raise BadText()
    web = (many, _ties(tail))
    if web_error(web) is not None:
        raise BadText()
    return web


def _number(text):
    """Return the number of places or the place that text tells, None if it tells none."""
    # Only so few numbers can stand in a text that a table spares all questions of signs and noughts.
    known = {str(k): k for k in range(MAX_PLACES + 1)}
    return known.get(text)


def _ties(tail):
    """Return the pairs that are told behind the colon; None stands for what is no place."""
    if tail == "":
        return ()
    pieces = tail.split(" ")
    # Each tie has a blank ahead of it, so nothing may stand ahead of the first one.
    if pieces[0] != "":
        raise BadText()
    return tuple([_ends(piece) for piece in pieces[1:]])


def _ends(piece):
    """Return the pair that a piece like 0-1 tells."""
    one, dash, other = piece.partition("-")
    if dash == "":
        raise BadText()
    return (_number(one), _number(other))
