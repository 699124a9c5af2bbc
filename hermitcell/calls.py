"""The calls that build realms and take them down (points [19] to [23])."""

from hermitcell.callforms import is_call
from hermitcell.courses import (
    COUNTS, EMPTY, MEASURE, ROOT, STATE, Course, give_back, is_low, lay_out, leave_realm, read_entry, read_state,
    take_away, take_in,
)
from hermitcell.errors import NotValid
from hermitcell.memory import WORDS, has_name, is_processor
from hermitcell.tables import granule_of, is_leaving, leaf_of


def _delegate(course, g):
    found = course.hold(g)
    course.ask(found[0] == "host")
    course.leave(g, "free", None)
    return ("ok",)


def _undelegate(course, g):
    found = course.hold(g)
    course.ask(found[0] == "free")
    course.wipe(g, "wipe")
    course.leave(g, "host", None)
    return ("ok",)


def _create(course, d, t):
    realm = course.hold(d)
    table = course.hold(t)
    course.ask(realm[0] == "free" and table[0] == "free")
    lay_out(course, d, t, "new", ())
    return ("ok",)


def _table_create(course, d, t, k):
    realm = course.hold(d)
    table = course.hold(t)
    state = read_state(course, d, realm)
    course.ask(state in ("new", "active") or _is_coming(state))
    course.ask(table[0] == "free")
    root = course.read(d, ROOT)
    course.ask(course.read(root, k) is None)
    course.write_all(t, EMPTY)
    course.write(root, k, ("table", t))
    take_in(course, d, t, "table")
    return ("ok",)


def _table_destroy(course, d, k):
    state = read_state(course, d, course.hold(d))
    root = course.read(d, ROOT)
    word = course.read(root, k)
    leaf = leaf_of(word)
    course.ask(leaf is not None or is_leaving(word))
    if leaf is not None:
        course.ask(all([_can_go(entry, state) for entry in course.read_all(leaf)]))
    h, _ = take_away(course, d, root, k, word, "wait")
    course.wipe(h, "wipe")
    course.write(root, k, None)
    give_back(course, d, h, "table")
    return ("ok",)


def _data_create(course, d, g, s, page):
    realm = course.hold(d)
    data = course.hold(g)
    state = read_state(course, d, realm)
    course.ask(state == "new")
    course.ask(data[0] == "free" or not course.stands("free"))
    t, i = _ask_for_unused(course, d, page)
    words = _copy_source(course, g, s)
    _measure_page(course, d, s, page, words)
    course.write(t, i, ("data", g))
    take_in(course, d, g, "data")
    return ("ok",)


def _data_fresh(course, d, g, page):
    realm = course.hold(d)
    data = course.hold(g)
    state = read_state(course, d, realm)
    course.ask(state == "active")
    course.ask(data[0] == "free" or not course.stands("free"))
    t, i = _ask_for_unused(course, d, page)
    course.wipe(g, "fresh")
    course.write(t, i, ("data", g))
    take_in(course, d, g, "data")
    return ("ok",)


def _data_destroy(course, d, page):
    state = read_state(course, d, course.hold(d))
    course.ask(state in ("active", "dying"))
    t, i, entry = read_entry(course, d, page)
    course.ask(granule_of(entry, "data") is not None or is_leaving(entry))
    h, _ = take_away(course, d, t, i, entry, "wait")
    course.wipe(h, "wipe")
    course.write(t, i, "destroyed" if state == "active" and course.stands("destroyed") else None)
    give_back(course, d, h, "data")
    return ("ok",)


def _share(course, d, page, g):
    state = read_state(course, d, course.hold(d))
    course.ask(state in ("new", "active"))
    course.ask(not is_low(page))
    t, i, entry = read_entry(course, d, page)
    course.ask(entry is None)
    course.write(t, i, ("shared", g))
    leave_realm(course, d)
    return ("ok",)


def _unshare(course, d, page):
    read_state(course, d, course.hold(d))
    course.ask(not is_low(page))
    t, i, entry = read_entry(course, d, page)
    course.ask(granule_of(entry, "shared") is not None)
    course.write(t, i, None)
    leave_realm(course, d)
    return ("ok",)


def _cpu_create(course, d, c, program, registers):
    realm = course.hold(d)
    cpu = course.hold(c)
    state = read_state(course, d, realm)
    course.ask(state == "new" or state == "active" and not course.stands("early"))
    course.ask(cpu[0] == "free")
    course.write_all(c, (0, registers, None, program))
    measure = course.read(d, MEASURE)
    course.write(d, MEASURE, measure + (("cpu", program, registers),))
    take_in(course, d, c, "cpu")
    return ("ok",)


def _cpu_destroy(course, d, c):
    realm = course.hold(d)
    cpu = course.hold(c)
    state = read_state(course, d, realm)
    course.ask(state == "dying")
    course.ask(cpu == ("cpu", d))
    course.wipe(c, "wipe")
    give_back(course, d, c, "cpu")
    return ("ok",)


def _activate(course, d):
    state = read_state(course, d, course.hold(d))
    course.ask(state == "new")
    course.write(d, STATE, "active")
    leave_realm(course, d)
    return ("ok",)


def _kill(course, d):
    read_state(course, d, course.hold(d))
    course.write(d, STATE, "dying")
    leave_realm(course, d)
    return ("ok",)


def _destroy(course, d):
    state = read_state(course, d, course.hold(d))
    course.ask(state == "dying")
    counts = course.read(d, COUNTS)
    course.ask(counts == (0, 0, 0) or not course.stands("counts"))
    r = course.read(d, ROOT)
    course.hold(r)
    course.wipe(r, "wipe")
    course.wipe(d, "wipe")
    course.leave(r, "free", None)
    course.leave(d, "free", None)
    return ("ok",)


def _is_coming(state):
    """True if the state of a realm is a tuple ("coming", ..)."""
    return has_name(state) and state[0] == "coming"


def _can_go(entry, state):
    """True if an entry lets its leaf table be destroyed, in a realm with this state."""
    if state == "dying":
        return not (has_name(entry) and entry[0] in ("data", "leaving"))
    return entry is None


def _ask_for_unused(course, d, page):
    """Asks for a page of the lower half that was never used; returns where its entry stands."""
    course.ask(is_low(page))
    t, i, entry = read_entry(course, d, page)
    course.ask(entry is None)
    return (t, i)


def _copy_source(course, g, s):
    """Copies the words of the source s into g; returns them. Refuses the call if one of them can't be copied."""
    words = []
    for i in range(WORDS):
        result = course.copy_word(s, i)
        if result[0] == "refused":
            course.wipe(g)
            course.give_up(("no",))
        words.append(result[1])
        course.write(g, i, result[1])
    return tuple(words)


def _measure_page(course, d, s, page, words):
    """Adds a page to the measure of a realm: the words that were copied, or those that the source has now."""
    if course.stands("measured"):
        measure = course.read(d, MEASURE)
    else:
        measure, words = course.read_beside(d, MEASURE, s)
    course.write(d, MEASURE, measure + (("page", page, words),))


_WORKS = {
    "delegate": _delegate,
    "undelegate": _undelegate,
    "create": _create,
    "table_create": _table_create,
    "table_destroy": _table_destroy,
    "data_create": _data_create,
    "data_fresh": _data_fresh,
    "data_destroy": _data_destroy,
    "share": _share,
    "unshare": _unshare,
    "cpu_create": _cpu_create,
    "cpu_destroy": _cpu_destroy,
    "activate": _activate,
    "kill": _kill,
    "destroy": _destroy,
}


class Call:
    """A call of point [21], made by a processor on a memory; it can be made without a wall of point [62]."""

    def __init__(self, memory, processor, call, without=None):
        if not is_call(call) or not is_processor(processor):
            raise NotValid()
        work = _WORKS[call[0]]
        self._processor = processor
        self._call = call
        self._without = without
        self._course = Course(memory, processor, work, call[1:], without)

    def step(self):
        """Makes the next access; returns the answer if it was the last one, otherwise None."""
        return self._course.step()

    def answer(self):
        """The answer, None as long as the call goes on."""
        return self._course.answer()

    def state(self):
        """A plain value of what the call has read and what it will do."""
        return (self._processor, self._call, self._course.shown())

    def copy(self, memory):
        """A call that stands where this one stands, on another memory."""
        other = Call(memory, self._processor, self._call, self._without)
        other._course = self._course.copy(memory)
        return other
