"""The calls with which a realm moves from one monitor to another one (points [36] to [41])."""

from hermitcell.courses import (
    EMPTY, MEASURE, ROOT, STATE, Course, is_low, lay_out, leave_realm, read_entry, read_state, take_in,
)
from hermitcell.errors import NotValid
from hermitcell.memory import GRANULES, PROCESSORS, WORDS, is_processor
from hermitcell.moveforms import CPU_PLACE, is_move, is_state, number_of, seal_parts, ticket_parts
from hermitcell.tables import FIRST_SHARED, granule_of, is_leaving, leaf_of
from hermitcell.words import Atom, is_form

# The numbers of the parts of a ticket's term, behind the source and the number of the move.
_TARGET = 2
_MEASURE = 3
_PAGES = 4
_CPUS = 5


def _freeze(course, monitor, d):
    state = read_state(course, d, course.hold(d))
    course.ask(state == "active" or is_form(state, "freezing", 2))
    n = number_of(state)
    if state == "active":
        n = course.ticket()
        course.write(d, STATE, ("freezing", n))
    for processor in range(PROCESSORS):
        if course.seen(processor)[0] == d:
            leave_realm(course, d)
            return ("busy",)
    course.write(d, STATE, ("frozen", n))
    leave_realm(course, d)
    return ("ok",)


def _thaw(course, monitor, d):
    state = read_state(course, d, course.hold(d))
    course.ask(is_form(state, "freezing", 2) or is_form(state, "frozen", 2))
    course.write(d, STATE, "active")
    leave_realm(course, d)
    return ("ok",)


def _seal(course, monitor, d, page):
    state = read_state(course, d, course.hold(d))
    course.ask(_is_at_rest(state))
    course.ask(is_low(page))
    _, _, entry = read_entry(course, d, page)
    g = granule_of(entry, "data")
    course.ask(g is not None)
    return _sealed(course, (monitor, number_of(state), page), d, g)


def _seal_cpu(course, monitor, d, c):
    state = read_state(course, d, course.hold(d))
    course.ask(_is_at_rest(state))
    course.ask(_is_cpu_of(course.look(c), d))
    return _sealed(course, (monitor, number_of(state), CPU_PLACE + c), d, c)


def _give(course, monitor, d, target):
    state = read_state(course, d, course.hold(d))
    course.ask(is_form(state, "frozen", 2) or is_form(state, "gone", 3) and not course.stands("target"))
    course.ask(target != monitor)
    course.write(d, STATE, ("gone", number_of(state), target))
    leave_realm(course, d)
    return ("ok",)


def _ticket(course, monitor, d):
    state = read_state(course, d, course.hold(d))
    course.ask(is_form(state, "gone", 3))
    pages = _read_pages(course, d)
    looks = [course.look(g) for g in range(GRANULES)]
    cpus = tuple([CPU_PLACE + g for g, status in enumerate(looks) if _is_cpu_of(status, d)])
    measure = course.read(d, MEASURE)
    leave_realm(course, d)
    return ("ok", Atom("ticket", (monitor, number_of(state), state[2], measure, pages, cpus)))


def _come(course, monitor, d, t, ticket):
    realm = course.hold(d)
    table = course.hold(t)
    course.ask(realm[0] == "free" and table[0] == "free")
    parts = ticket_parts(ticket)
    course.ask(parts is not None and parts[_TARGET] == monitor)
    course.ask(course.once(parts[:2]))
    lay_out(course, d, t, ("coming", ticket, ()), parts[_MEASURE])
    return ("ok",)


def _place(course, monitor, d, g, page, seal):
    realm = course.hold(d)
    data = course.hold(g)
    _, ticket, _ = _read_coming(course, d, realm)
    course.ask(data[0] == "free")
    course.ask(is_low(page) and ticket_parts(ticket)[_PAGES][page] == "data")
    place, words = _ask_for_seal(course, ticket, seal)
    course.ask(place == page)
    t, i = _ask_for_none(course, d, page)
    course.write_all(g, words)
    course.write(t, i, ("data", g))
    take_in(course, d, g, "data")
    return ("ok",)


def _strike(course, monitor, d, page):
    _, ticket, _ = _read_coming(course, d, course.hold(d))
    course.ask(is_low(page) and ticket_parts(ticket)[_PAGES][page] == "destroyed")
    t, i = _ask_for_none(course, d, page)
    course.write(t, i, "destroyed")
    leave_realm(course, d)
    return ("ok",)


def _place_cpu(course, monitor, d, c, seal):
    realm = course.hold(d)
    cpu = course.hold(c)
    _, ticket, there = _read_coming(course, d, realm)
    course.ask(cpu[0] == "free")
    place, words = _ask_for_seal(course, ticket, seal)
    course.ask(place in ticket_parts(ticket)[_CPUS] and place not in there)
    course.write_all(c, words)
    course.write(d, STATE, ("coming", ticket, there + (place,)))
    take_in(course, d, c, "cpu")
    return ("ok",)


def _begin(course, monitor, d):
    _, ticket, there = _read_coming(course, d, course.hold(d))
    parts = ticket_parts(ticket)
    course.ask(len(there) == len(parts[_CPUS]))
    course.ask(_read_pages(course, d) == parts[_PAGES])
    course.write(d, STATE, "active")
    leave_realm(course, d)
    return ("ok",)


def _is_at_rest(state):
    """True if the state of a realm is that of one whose words stay as they are."""
    return is_form(state, "frozen", 2) or is_form(state, "gone", 3)


def _is_cpu_of(status, d):
    """True if a status is that of a virtual processor of the realm."""
    state, owner, _ = status
    return state in ("cpu", "running") and owner == d


def _sealed(course, place, d, g):
    """Reads a granule, and leaves the realm; returns the answer with the seal for the place (source, n, place)."""
    words = course.read_hidden(g)
    leave_realm(course, d)
    return ("ok", Atom("seal", place + (words,)))


def _read_pages(course, d):
    """Reads the tables; returns the tuple of what a ticket tells of the pages of the lower half."""
    root = course.read(d, ROOT)
    pages = []
    for k in range(FIRST_SHARED // WORDS):
        t = leaf_of(course.read(root, k))
        entries = EMPTY if t is None else course.read_all(t)
        pages.extend([_told_of(entry) for entry in entries])
    return tuple(pages)


def _told_of(entry):
    """What a ticket tells of a page with this entry."""
    if granule_of(entry, "data") is not None:
        return "data"
    if entry == "destroyed" or is_leaving(entry) or is_form(entry, "out", 2):
        return "destroyed"
    return None


def _read_coming(course, d, found):
    """Asks that d, as it was found when it was held, is a realm that comes; returns its state."""
    state = read_state(course, d, found)
    course.ask(is_form(state, "coming", 3) and is_state(state))
    return state


def _ask_for_seal(course, ticket, seal):
    """Asks that the seal is one of the move that the ticket tells; returns the tuple (place, words) of it."""
    parts = ticket_parts(ticket)
    sealed = seal_parts(seal)
    course.ask(sealed is not None and sealed[:2] == parts[:2])
    return sealed[2:]


def _ask_for_none(course, d, page):
    """Asks for a page without an entry; returns where its entry stands."""
    t, i, entry = read_entry(course, d, page)
    course.ask(entry is None)
    return (t, i)


_WORKS = {
    "freeze": _freeze,
    "thaw": _thaw,
    "seal": _seal,
    "seal_cpu": _seal_cpu,
    "give": _give,
    "ticket": _ticket,
    "come": _come,
    "place": _place,
    "strike": _strike,
    "place_cpu": _place_cpu,
    "begin": _begin,
}


class Move:
    """A call of point [38], made by a processor on a memory, whose monitor has this name.

    It can be made without the wall "target" of point [62].
    """

    def __init__(self, memory, processor, call, monitor, without=None):
        if not is_move(call) or not is_processor(processor) or type(monitor) is not str:
            raise NotValid()
        work = _WORKS[call[0]]
        self._processor = processor
        self._call = call
        self._monitor = monitor
        self._without = without
        self._course = Course(memory, processor, work, (monitor,) + call[1:], without)

    def step(self):
        """Makes the next access; returns the answer if it was the last one, otherwise None."""
        return self._course.step()

    def answer(self):
        """The answer, None as long as the call goes on."""
        return self._course.answer()

    def state(self):
        """A plain value of what the call has read and what it will do, without the words that a seal will hold."""
        return (self._processor, self._call, self._monitor, self._course.shown())

    def copy(self, memory):
        """A call that stands where this one stands, on another memory."""
        other = Move(memory, self._processor, self._call, self._monitor, self._without)
        other._course = self._course.copy(memory)
        return other
