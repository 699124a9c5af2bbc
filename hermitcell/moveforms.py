"""The forms of moves: states of realms, tickets, seals and calls (points [36] to [38])."""

from hermitcell.callforms import are_parts
from hermitcell.memory import has_name
from hermitcell.words import Atom, is_form, is_number, is_text, is_word

MOVES = (
    "freeze", "thaw", "seal", "seal_cpu", "give", "ticket", "come", "place", "strike", "place_cpu", "begin",
)
CPU_PLACE = 8

# What the parts behind the name of a call are.
_FORMS = {
    "freeze": ("granule",),
    "thaw": ("granule",),
    "seal": ("granule", "page"),
    "seal_cpu": ("granule", "granule"),
    "give": ("granule", "text"),
    "ticket": ("granule",),
    "come": ("granule", "granule", "word"),
    "place": ("granule", "granule", "page", "word"),
    "strike": ("granule", "page"),
    "place_cpu": ("granule", "granule", "word"),
    "begin": ("granule",),
}


def is_move(value):
    """True if the value is a call of the table of point [38]; it may be anything."""
    return has_name(value) and are_parts(value[1:], _FORMS.get(value[0]))


def is_state(value):
    """True if the value has the form of a word 0 of a realm; it may be anything."""
    if type(value) is str:
        return value in ("new", "active", "dying")
    if is_form(value, "coming", 3):
        return ticket_parts(value[1]) is not None and type(value[2]) is tuple and is_word(value[2])
    if is_form(value, "gone", 3) and not is_text(value[2]):
        return False
    n = number_of(value)
    return is_number(n) and n > 0


def ticket_parts(word):
    """The term of a ticket, None for everything else."""
    if type(word) is Atom and word.kind == "ticket":
        return word.term
    return None


def seal_parts(word):
    """The term of a seal that is not stripped, None for everything else."""
    if type(word) is Atom and word.kind == "seal" and word.term[3] is not None:
        return word.term
    return None


def number_of(state):
    """The number of a move that a state tells, whatever stands in its place, otherwise None; it may be anything."""
    if is_form(state, "freezing", 2) or is_form(state, "frozen", 2) or is_form(state, "gone", 3):
        return state[1]
    return None
