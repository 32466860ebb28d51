"""Terms: what tells how a web with two poles is laid, in rows and side by side."""

from botheven.bounds import MAX_NEST, MAX_PLACES, MAX_POLES, MAX_TIES
from botheven.errors import BadText, Unfit
from botheven.figures import integer_of
from botheven.kinds import row_of, whole_within
from botheven.poles import in_row, side_by_side, times_over

_PAIRS = ("row", "side")
_FOLDS = ("rows", "sides")
# What opens a text, and what closes it.
_CLOSING = {"(": ")", "[": "]"}


def _depth(value):
    """Return how deep triples are nested."""
    return 1 + max([_depth(item) for item in value]) if row_of(value, 3) else 0


def term_error(value):
    """Return None for a term, else what is wrong with value first."""
    if _depth(value) > MAX_NEST:
        return "form"
    return _error(value)


def _error(value):
    """Return None for a term, else what is wrong with value first; it is not nested too deep."""
    if value == "tie":
        return None
    if not row_of(value, 3) or value[0] not in _PAIRS + _FOLDS:
        return "form"
    places = (1, 2) if value[0] in _PAIRS else (1,)
    for place in places:
        error = _error(value[place])
        if error is not None:
            return ("part", place, error)
    if value[0] in _FOLDS and not whole_within(value[2], 1, MAX_POLES):
        return "times"
    return None


def term_type(term):
    """Return the type of the web that the term tells."""
    if term == "tie":
        return (0, "tie")
    word, part, behind = term
    kind = term_type(part)
    if word == "row":
        return in_row(kind, term_type(behind))
    if word == "side":
        return side_by_side(kind, term_type(behind))
    return times_over(kind, behind, "one" if word == "rows" else "open")


def term_size(term):
    """Return how many places and how many ties the web has that the term tells."""
    inner, ties = _inner_size(term)
    return inner + 2, ties


def _inner_size(term):
    """Return how many places but the poles, and how many ties, the web has."""
    if term == "tie":
        return 0, 1
    word, part, behind = term
    inner, ties = _inner_size(part)
    if word in _PAIRS:
        more, further = _inner_size(behind)
        return inner + more + int(word == "row"), ties + further
    return inner * behind + (behind - 1 if word == "rows" else 0), ties * behind


def term_lots(term):
    """Return how many lots the base of the both-even lots of the web has."""
    many, word = term_type(term)
    return many + int(word == "open")


def term_web(term):
    """Return the web that the term tells, with the poles 0 and 1."""
    places, ties = term_size(term)
    if places > MAX_PLACES or ties > MAX_TIES:
        raise Unfit()
    laid = []
    _put_term(term, 0, 1, 2, laid)
    return places, tuple(laid)


def _put_term(term, start, goal, free, laid):
    """Append the ties of the term, laid from start to goal; return the first number that is free then."""
    if term == "tie":
        laid.append((min(start, goal), max(start, goal)))
        return free
    word, part, behind = term
    parts = [part, behind] if word in _PAIRS else [part] * behind
    stops = [(start, goal)] * len(parts)
    if word in ("row", "rows"):
        row = [start] + list(range(free, free + len(parts) - 1)) + [goal]
        stops = list(zip(row, row[1:]))
        free += len(parts) - 1
    for each, (here, there) in zip(parts, stops):
        free = _put_term(each, here, there, free, laid)
    return free


def term_text(term):
    """Return the text of a term."""
    if term == "tie":
        return "-"
    word, part, behind = term
    inner = f"{term_text(part)} {term_text(behind)}" if word in _PAIRS else f"{term_text(part)}*{behind}"
    return f"({inner})" if word in ("row", "rows") else f"[{inner}]"


def read_term(value):
    """Return the term of which value is the text."""
    if not isinstance(value, str):
        raise BadText()
    term, end = _read_at(value, 0, 0)
    if end != len(value):
        raise BadText()
    return term


def _read_at(text, at, depth):
    """Return the term whose text begins here, within so many brackets, and the place behind it."""
    sign = text[at:at + 1]
    if sign == "-":
        return "tie", at + 1
    if sign not in _CLOSING or depth == MAX_NEST:
        raise BadText()
    part, end = _read_at(text, at + 1, depth + 1)
    joint = text[end:end + 1]
    if joint == " ":
        behind, end = _read_at(text, end + 1, depth + 1)
    elif joint == "*":
        behind, end = _times_at(text, end + 1, _CLOSING[sign])
    else:
        raise BadText()
    if text[end:end + 1] != _CLOSING[sign]:
        raise BadText()
    return (_word(sign, joint), part, behind), end + 1


def _times_at(text, at, closing):
    """Return the integer that is told from here to the closing bracket, and the place of this bracket."""
    end = text.find(closing, at)
    number = integer_of(text[at:end], MAX_POLES) if end > at else None
    if number is None or number < 1:
        raise BadText()
    return number, end


def _word(sign, joint):
    """Return the word of a term whose text has this bracket and this sign in it."""
    words = ("row", "rows") if sign == "(" else ("side", "sides")
    return words[int(joint == "*")]
