"""Taking a page of a realm out of its granule, and putting it back (points [24] to [27])."""

from hermitcell.callforms import are_parts
from hermitcell.courses import Course, give_back, is_low, read_entry, read_state, take_away, take_in
from hermitcell.errors import NotValid
from hermitcell.memory import has_name, is_processor
from hermitcell.tables import granule_of, is_leaving
from hermitcell.words import Atom, is_form, is_monitor, strip

PAGINGS = ("page_out", "page_in")

# What the parts behind the name of a call are.
_FORMS = {
    "page_out": ("granule", "page"),
    "page_in": ("granule", "granule", "page", "host word"),
}


def is_paging(value):
    """True if the value is a call of the table of point [26]; it may be anything."""
    return has_name(value) and are_parts(value[1:], _FORMS.get(value[0]))


def page_atom(monitor, n, page, words):
    """The atom of a page that is out."""
    return Atom("page", (monitor, n, page, words))


def _page_out(course, monitor, d, page):
    state = read_state(course, d, course.hold(d))
    course.ask(state == "active")
    course.ask(is_low(page))
    t, i, entry = read_entry(course, d, page)
    course.ask(granule_of(entry, "data") is not None or is_leaving(entry))
    g, n = take_away(course, d, t, i, entry)
    words = course.read_hidden(g)
    course.wipe(g)
    course.write(t, i, ("out", n))
    give_back(course, d, g, "data")
    return ("ok", page_atom(monitor, n, page, words))


def _page_in(course, monitor, d, g, page, atom):
    realm = course.hold(d)
    data = course.hold(g)
    state = read_state(course, d, realm)
    course.ask(state == "active")
    course.ask(data[0] == "free")
    course.ask(is_low(page))
    t, i, entry = read_entry(course, d, page)
    course.ask(is_form(entry, "out", 2))
    words = _words_of(atom, monitor, entry[1] if course.stands("version") else None, page)
    course.ask(words is not None)
    course.write_all(g, words)
    course.write(t, i, ("data", g))
    take_in(course, d, g, "data")
    return ("ok",)


def _words_of(atom, monitor, n, page):
    """The words that an atom hides, if it is that of this page that went out with the number n, otherwise None.

    Every number will do if n is None.
    """
    if type(atom) is not Atom or atom.kind != "page":
        return None
    source, number, place, words = atom.term
    if source != monitor or place != page or n is not None and number != n:
        return None
    return words


_WORKS = {"page_out": _page_out, "page_in": _page_in}


class Paging:
    """A call of point [26], made by a processor on a memory, whose monitor has this name.

    It can be made without the wall "version" of point [62].
    """

    def __init__(self, memory, processor, call, monitor, without=None):
        if not is_paging(call) or not is_processor(processor) or not is_monitor(monitor):
            raise NotValid()
        work = _WORKS[call[0]]
        self._processor = processor
        self._call = call
        self._monitor = monitor
        self._without = without
        self._course = Course(memory, processor, work, (monitor,) + call[1:], without)

    def step(self):
        """Makes the next access; returns the answer if it was the last one, otherwise None."""
        return self._course.step()

    def answer(self):
        """The answer, None as long as the call goes on."""
        return self._course.answer()

    def state(self):
        """A plain value of what the call has read and what it will do, without the words of pages."""
        return strip((self._processor, self._call, self._monitor, self._course.shown()))

    def copy(self, memory):
        """A call that stands where this one stands, on another memory."""
        other = Paging(memory, self._processor, self._call, self._monitor, self._without)
        other._course = self._course.copy(memory)
        return other
