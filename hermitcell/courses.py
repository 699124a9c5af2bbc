"""Calls that are made access by access, and what those that name a realm have in common (points [19] to [22]).

What a call does next hangs on the results of its accesses so far, and on nothing else. So the work of a call is
written as one plain function, from its first access to its answer. Behind each access it is gone through anew, and is
given the results that are there already, up to the first access that was not made yet.
"""

from hermitcell.errors import NotValid
from hermitcell.memory import PROCESSORS, WORDS
from hermitcell.tables import FIRST_SHARED, leaf_of, place_of

# The numbers of the words of a realm's descriptor.
STATE = 0
ROOT = 1
MEASURE = 2
COUNTS = 3
# The words of an empty table.
EMPTY = (None, None, None, None)

# Where the granules of a realm are counted, by their states.
_COUNTED = {"cpu": 0, "table": 1, "data": 2}


class Broken(Exception):
    """The work of a call is broken off, at an access that was not made yet, or with an answer."""


class Course:
    """A call on its way: a work is a function of a course and of parts, which makes accesses by it, and answers.

    It can be made without one of the walls of point [62]: the works ask whether the wall stands.
    """

    def __init__(self, memory, processor, work, parts, without=None):
        self._memory = memory
        self._processor = processor
        self._work = work
        self._parts = parts
        self._without = without
        self._results = []
        self._shown = []
        # Where the work has come to: the results that it was given, and what it holds.
        self._at = 0
        self._held = []
        # What it ended with: the next access, or the answer.
        self._request = None
        self._is_hidden = False
        self._beside = None
        self._answer = None
        self._go_through()

    def step(self):
        """Makes the next access; returns the answer if it was the last one, otherwise None."""
        if self._answer is not None:
            raise NotValid()
        result = self._memory.access(("monitor", self._processor), self._request)
        if self._beside is not None:
            result = (result, self._memory.words(self._beside))
        self._results.append(result)
        self._shown.append(None if self._is_hidden else _plain(result))
        self._go_through()
        return self._answer

    def answer(self):
        """The answer, None as long as it goes on."""
        return self._answer

    def shown(self):
        """The tuple of the results of the accesses so far, None in the place of each that is hidden."""
        return tuple(self._shown)

    def copy(self, memory):
        """A course that stands where this one stands, on another memory."""
        other = Course(memory, self._processor, self._work, self._parts, self._without)
        other._results = list(self._results)
        other._shown = list(self._shown)
        other._go_through()
        return other

    def stands(self, wall):
        """True if this wall is not left out."""
        return self._without != wall

    def read(self, g, i):
        """The word i of a granule."""
        return self._make(("read", g, i))

    def read_all(self, g):
        """The list of the words of a granule."""
        return [self.read(g, i) for i in range(WORDS)]

    def read_hidden(self, g):
        """The tuple of the words of a granule, which are not shown."""
        return tuple([self._make(("read", g, i), is_hidden=True) for i in range(WORDS)])

    def read_beside(self, g, i, s):
        """The word i of a granule, and the tuple of the words that the granule s has at this access."""
        return self._make(("read", g, i), beside=s)

    def write(self, g, i, word):
        """Writes the word i of a granule."""
        self._make(("write", g, i, word))

    def write_all(self, g, words):
        """Writes the four words of a granule."""
        for i, word in enumerate(words):
            self.write(g, i, word)

    def wipe(self, g, wall=None):
        """Writes 0 into each word of a granule; where this wall is left out, it reads them instead."""
        if wall is None or self.stands(wall):
            self.write_all(g, (0,) * WORDS)
        else:
            self.read_all(g)

    def copy_word(self, g, i):
        """What the monitor gets when it copies a word of a granule of the host."""
        return self._make(("copy", g, i))

    def look(self, g):
        """The status of a granule."""
        return self._make(("look", g))

    def ticket(self):
        """A new number."""
        return self._make(("ticket",))

    def once(self, word):
        """True if the word was never told so before."""
        return self._make(("once", word))

    def seen(self, processor):
        """The presence and the last drop of a processor."""
        return self._make(("seen", processor))

    def hold(self, g):
        """Holds a granule; returns its state and its owner. Answers that the call is busy if it is held already."""
        found = self._make(("hold", g))
        if found is None:
            self.give_up(("busy",))
        self._held.append(g)
        return found

    def leave(self, g, state, owner):
        """Leaves a granule."""
        self._make(("leave", g, state, owner))

    def ask(self, is_so):
        """Answers that the call is refused if something that is asked does not hold."""
        if not is_so:
            self.give_up(("no",))

    def give_up(self, answer):
        """Releases all that is held, and ends the call with this answer."""
        for g in self._held:
            self._make(("release", g))
        self._answer = answer
        raise Broken()

    def _go_through(self):
        """Finds the next access, or the answer."""
        self._at = 0
        self._held = []
        self._answer = None
        work = self._work
        parts = self._parts
        try:
            self._answer = work(self, *parts)
        except Broken:
            return

    def _make(self, request, is_hidden=False, beside=None):
        """The result of an access, if it was made already; otherwise it is the next one."""
        if self._at == len(self._results):
            self._request = request
            self._is_hidden = is_hidden
            self._beside = beside
            raise Broken()
        self._at += 1
        return self._results[self._at - 1]


def _plain(result):
    """The result of an access as a plain value, in which there are no truths."""
    return int(result) if type(result) is bool else result


def read_state(course, d, found):
    """Asks that d, as it was found when it was held, is a realm; returns its state."""
    course.ask(found[0] == "desc")
    return course.read(d, STATE)


def read_entry(course, d, page):
    """Asks for an entry of the page; returns the tuple (granule, index, entry), which tells where it stands."""
    k, i = place_of(page)
    t = leaf_of(course.read(course.read(d, ROOT), k))
    course.ask(t is not None)
    return (t, i, course.read(t, i))


def is_low(page):
    """True if a page is one of the lower half."""
    return page < FIRST_SHARED


def lay_out(course, d, t, state, measure):
    """Makes a realm with an empty root table of two granules that are held, and leaves them."""
    course.write_all(d, (state, t, measure, (0, 0, 0)))
    course.write_all(t, EMPTY)
    course.leave(t, "table", d)
    leave_realm(course, d)


def leave_realm(course, d):
    """Leaves a realm that goes on."""
    course.leave(d, "desc", None)


def take_in(course, d, g, state):
    """Counts a granule among those of a realm, and leaves it so, and the realm."""
    _add_to_count(course, d, state, 1)
    course.leave(g, state, d)
    leave_realm(course, d)


def give_back(course, d, g, state):
    """Takes a granule from the count of a realm, and leaves it free, and the realm."""
    _add_to_count(course, d, state, -1)
    course.leave(g, "free", None)
    leave_realm(course, d)


def take_away(course, d, t, i, word, wall=None):
    """Waits until no processor can use the granule that the word i of t names, and holds it.

    Returns the tuple (granule, n), n being the ticket of the waiting. Where this wall is left out, it does not wait.
    """
    h = word[1]
    n = word[2] if word[0] == "leaving" else None
    if word[0] != "leaving":
        course.write(t, i, ("leaving", h, None))
    if n is None:
        n = course.ticket()
        course.write(t, i, ("leaving", h, n))
    for processor in range(PROCESSORS):
        presence, drop = course.seen(processor)
        if presence == d and drop < n and (wall is None or course.stands(wall)):
            course.give_up(("busy",))
    course.hold(h)
    return (h, n)


def _add_to_count(course, d, state, many):
    """Changes the count of the granules with a state."""
    counts = list(course.read(d, COUNTS))
    counts[_COUNTED[state]] += many
    course.write(d, COUNTS, tuple(counts))
