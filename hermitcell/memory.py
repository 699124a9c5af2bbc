"""The memory: granules and processors, changed and read by accesses alone (points [7] to [10])."""

from hermitcell.errors import NotValid
from hermitcell.words import is_word

GRANULES = 24
WORDS = 4
PROCESSORS = 3
PAGES = 16
STATES = ("host", "free", "desc", "table", "cpu", "running", "data")

# What the parts behind the name of a request are, by the kind of the actor and the name.
_REQUESTS = {
    ("host", "read"): ("granule", "index"),
    ("host", "write"): ("granule", "index", "word"),
    ("host", "drop"): (),
    ("monitor", "read"): ("granule", "index"),
    ("monitor", "write"): ("granule", "index", "word"),
    ("monitor", "copy"): ("granule", "index"),
    ("monitor", "hold"): ("granule",),
    ("monitor", "leave"): ("granule", "state", "owner"),
    ("monitor", "release"): ("granule",),
    ("monitor", "look"): ("granule",),
    ("monitor", "swap"): ("granule", "state", "state"),
    ("monitor", "rest"): ("granule",),
    ("monitor", "present"): ("owner",),
    ("monitor", "seen"): ("processor",),
    ("monitor", "ticket"): (),
    ("monitor", "once"): ("word",),
    ("core", "walk"): ("granule", "index"),
    ("core", "leaf"): ("page", "granule", "index"),
    ("core", "touch"): ("page", "index"),
    ("core", "put"): ("page", "index", "word"),
}


def is_granule(value):
    """True if the value is the number of a granule; it may be anything."""
    return _is_below(value, GRANULES)


def is_processor(value):
    """True if the value is the number of a processor; it may be anything."""
    return _is_below(value, PROCESSORS)


def is_page(value):
    """True if the value is the number of a page; it may be anything."""
    return _is_below(value, PAGES)


def is_access(actor, request):
    """True if the request is one of the table of point [9] for the actor; both may be anything."""
    if not _is_actor(actor) or not has_name(request):
        return False
    forms = _REQUESTS.get((actor[0], request[0]))
    if forms is None or len(request) != len(forms) + 1:
        return False
    return all([fits(part, form) for part, form in zip(request[1:], forms)])


def has_name(value):
    """True if the value is a tuple that begins with a string; it may be anything."""
    return type(value) is tuple and len(value) > 0 and type(value[0]) is str


def fits(part, form):
    """True if a part of a request or a call is what the form tells; the part may be anything."""
    if form == "granule":
        return is_granule(part)
    if form == "owner":
        return part is None or is_granule(part)
    if form == "index":
        return _is_below(part, WORDS)
    if form == "page":
        return is_page(part)
    if form == "processor":
        return is_processor(part)
    if form == "state":
        return type(part) is str and part in STATES
    return is_word(part)


def is_row(word):
    """True if a word is what a row can be."""
    return type(word) is tuple and len(word) == 2 and word[0] in ("data", "shared") and is_granule(word[1])


class Memory:
    """The granules, the processors, the number of tickets, the words told once, and the log.

    It can be made without one of the walls of point [62].
    """

    def __init__(self, without=None):
        self._without = without
        self._statuses = [("host", None, None)] * GRANULES
        self._words = [[0] * WORDS for _ in range(GRANULES)]
        self._presences = [None] * PROCESSORS
        self._rows = [{} for _ in range(PROCESSORS)]
        self._walks = [False] * PROCESSORS
        self._drops = [0] * PROCESSORS
        self._tickets = 0
        self._taken = []
        self._log = []

    def access(self, actor, request):
        """Makes an access; returns its result. Raises NotValid if it is none."""
        if not is_access(actor, request):
            raise NotValid()
        kind, processor = actor
        name, *parts = request
        if kind == "host":
            result = self._act_as_host(processor, name, parts)
        elif kind == "monitor":
            result = self._act_as_monitor(processor, name, parts)
        else:
            result = self._act_as_core(processor, name, parts)
        self._log.append((len(self._log), actor, request, result))
        return result

    def log(self):
        """The list of the tuples (number, actor, request, result) of all accesses."""
        return list(self._log)

    def last(self):
        """The last tuple of the log, None if there is none."""
        return self._log[-1] if self._log else None

    def status(self, g):
        """The status (state, owner, holder) of a granule."""
        return self._statuses[_number_below(g, GRANULES)]

    def words(self, g):
        """The tuple of the words of a granule."""
        return tuple(self._words[_number_below(g, GRANULES)])

    def presence(self, p):
        """The descriptor's granule of the realm that a processor is in, or None."""
        return self._presences[_number_below(p, PROCESSORS)]

    def rows(self, p):
        """The dict from pages to rows (kind, granule) of a processor."""
        return dict(self._rows[_number_below(p, PROCESSORS)])

    def walks(self, p):
        """True if a processor walks."""
        return self._walks[_number_below(p, PROCESSORS)]

    def dropped(self, p):
        """The last drop of a processor."""
        return self._drops[_number_below(p, PROCESSORS)]

    def tickets(self):
        """The number of tickets."""
        return self._tickets

    def taken(self):
        """The tuple of the words that were told once, in order."""
        return tuple(self._taken)

    def copy(self):
        """A memory with the same contents and the same log, that shares nothing."""
        other = Memory(self._without)
        other._statuses = list(self._statuses)
        other._words = [list(words) for words in self._words]
        other._presences = list(self._presences)
        other._rows = [dict(rows) for rows in self._rows]
        other._walks = list(self._walks)
        other._drops = list(self._drops)
        other._tickets = self._tickets
        other._taken = list(self._taken)
        other._log = list(self._log)
        return other

    def change(self, g, i, word):
        """Puts a word into a granule, without an access."""
        self._words[g][i] = word

    def _stands(self, wall):
        """True if this wall is not left out."""
        return self._without != wall

    def _act_as_host(self, p, name, parts):
        """Makes an access of the host."""
        if name == "read":
            return self._read_as_host(*parts)
        if name == "write":
            return self._write_as_host(*parts)
        return self._drop(p)

    def _act_as_monitor(self, p, name, parts):
        """Makes an access of the monitor."""
        if name == "read":
            return self._read(*parts)
        if name == "write":
            return self._write(*parts)
        if name == "copy":
            return self._copy_for_monitor(*parts)
        if name == "hold":
            return self._hold(p, *parts)
        if name == "leave":
            return self._leave(*parts)
        if name == "release":
            return self._release(p, *parts)
        if name == "look":
            return self._look(*parts)
        if name == "swap":
            return self._swap(*parts)
        if name == "rest":
            return self._rest(*parts)
        if name == "present":
            return self._present(p, *parts)
        if name == "seen":
            return self._seen(*parts)
        if name == "ticket":
            return self._ticket()
        return self._once(*parts)

    def _act_as_core(self, p, name, parts):
        """Makes an access of a core."""
        if name == "walk":
            return self._walk(p, *parts)
        if name == "leaf":
            return self._leaf(p, *parts)
        if name == "touch":
            return self._touch(p, *parts)
        return self._put(p, *parts)

    def _read_as_host(self, g, i):
        """The word of a granule of the host."""
        if self._statuses[g][0] != "host":
            return ("refused",)
        return ("word", self._words[g][i])

    def _copy_for_monitor(self, g, i):
        """What the monitor gets of a source, which has to be the host's."""
        if self._stands("source"):
            return self._read_as_host(g, i)
        return ("word", self._words[g][i])

    def _write_as_host(self, g, i, word):
        if self._statuses[g][0] != "host":
            return ("refused",)
        self._words[g][i] = word
        return ("done",)

    def _drop(self, p):
        self._forget_rows(p)
        self._drops[p] = self._tickets

    def _read(self, g, i):
        return self._words[g][i]

    def _write(self, g, i, word):
        self._words[g][i] = word

    def _hold(self, p, g):
        state, owner, holder = self._statuses[g]
        if holder is not None:
            return None
        self._statuses[g] = (state, owner, p)
        return (state, owner)

    def _leave(self, g, state, owner):
        self._statuses[g] = (state, owner, None)

    def _release(self, p, g):
        state, owner, holder = self._statuses[g]
        if holder == p:
            self._statuses[g] = (state, owner, None)

    def _look(self, g):
        return self._statuses[g]

    def _swap(self, g, old, new):
        state, owner, holder = self._statuses[g]
        if state != old or holder is not None:
            return False
        self._statuses[g] = (new, owner, None)
        return True

    def _rest(self, g):
        state, owner, holder = self._statuses[g]
        if state == "running":
            self._statuses[g] = ("cpu", owner, holder)

    def _present(self, p, d):
        self._presences[p] = d
        self._walks[p] = False
        if self._stands("rows"):
            self._forget_rows(p)

    def _seen(self, q):
        return (self._presences[q], self._drops[q])

    def _ticket(self):
        self._tickets += 1
        return self._tickets

    def _once(self, word):
        if word in self._taken:
            return not self._stands("once")
        self._taken.append(word)
        return True

    def _walk(self, p, g, i):
        self._walks[p] = True
        return ("word", self._words[g][i])

    def _leaf(self, p, page, g, i):
        if not self._walks[p] and self._stands("again"):
            return ("again",)
        self._walks[p] = False
        word = self._words[g][i]
        if is_row(word):
            self._rows[p][page] = word
        return ("word", word)

    def _touch(self, p, page, i):
        refusal = self._refusal(p, page)
        if refusal is not None:
            return refusal
        return ("word", self._words[self._rows[p][page][1]][i])

    def _put(self, p, page, i, word):
        refusal = self._refusal(p, page)
        if refusal is not None:
            return refusal
        self._words[self._rows[p][page][1]][i] = word
        return ("done",)

    def _refusal(self, p, page):
        """The result of a touch that reaches no granule, None if it reaches one."""
        row = self._rows[p].get(page)
        if row is None:
            return ("none",)
        kind, g = row
        # A row of data ends at the host's granules, and a shared one leads to nothing else.
        if (kind == "data") == (self._statuses[g][0] == "host"):
            return ("fault",)
        return None

    def _forget_rows(self, p):
        self._rows[p] = {}
        self._walks[p] = False


def _is_below(value, many):
    """True if the value is an integer from 0 on that is less than many."""
    return type(value) is int and 0 <= value < many


def _number_below(value, many):
    """The value. Raises NotValid if it is no integer from 0 on that is less than many."""
    if not _is_below(value, many):
        raise NotValid()
    return value


def _is_actor(value):
    """True if the value has the form of an actor; what kinds there are is told by the table alone."""
    return type(value) is tuple and len(value) == 2 and type(value[0]) is str and is_processor(value[1])
