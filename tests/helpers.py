"""What several tests need: odd values, words of a told form, all that a memory tells, realms, and calls made to the end."""

import unittest

from hermitcell.calls import Call
from hermitcell.errors import NotValid
from hermitcell.memory import GRANULES, PROCESSORS, Memory
from hermitcell.words import Atom, strip

MONITOR = ("monitor", 0)
HOST = ("host", 0)
CORE = ("core", 0)


class Hostile:
    """A value that is equal to everything, has no hash, and raises where else it is asked."""

    __hash__ = None

    def __eq__(self, other):
        return True

    def __getattr__(self, name):
        raise RuntimeError(name)

    def __bool__(self):
        raise RuntimeError

    def __len__(self):
        raise RuntimeError

    def __iter__(self):
        raise RuntimeError


class TrickyText(str):
    def __eq__(self, other):
        return True

    __hash__ = str.__hash__


def endless_list():
    """A list that has itself as its item."""
    found = []
    found.append(found)
    return found


def nested(many, inner=None):
    """A tuple that is nested so deep."""
    word = () if inner is None else (inner,)
    for _ in range(many - 1):
        word = (word,)
    return word


def doubled(many):
    """A tuple that is nested so deep, and has itself twice at each depth."""
    word = ()
    for _ in range(many - 1):
        word = (word, word)
    return word


# None of these is a word, or a part of anything that the document tells.
NO_WORDS = (
    True, False, 1.0, float("nan"), 1j, b"", b"data", [], ["host"], {}, {1: 2}, {1}, object(), Hostile(), int, len,
    TrickyText("data"), 2 ** 31, -2 ** 31 - 1, 10 ** 100, "a" * 25, "\x1f", "\x7f", "\n", "\u00e9", "\ud800",
    (True,), (1, (2, [3])), ((((1.5,),),),), (Hostile(),), ("data", Hostile()), endless_list(), (endless_list(),),
    nested(41), nested(100000), doubled(300),
)


def challenge(number, name="v"):
    return Atom("challenge", (name, number))


def token(word, monitor="m", measure=()):
    return Atom("token", (monitor, measure, word))


def seal(number=1, place=0, words=(1, 2, 3, 4), source="m", kind="seal"):
    return Atom(kind, (source, number, place, words))


def ticket(pages=(None,) * 8, measure=(), cpus=(), source="m", number=1, target="n"):
    return Atom("ticket", (source, number, target, measure, pages, cpus))


def ranked(rank):
    """An atom of the rank."""
    atom = challenge(0)
    while atom.rank < min(rank, 36):
        atom = token(atom)
    while atom.rank < rank:
        atom = ticket(measure=(atom,))
    return atom


def contents(memory):
    """All that a memory tells."""
    return (
        memory.log(),
        [memory.status(g) for g in range(GRANULES)],
        [memory.words(g) for g in range(GRANULES)],
        [(memory.presence(p), memory.rows(p), memory.walks(p), memory.dropped(p)) for p in range(PROCESSORS)],
        memory.tickets(),
        memory.taken(),
    )


def leave(memory, g, state, owner=None):
    memory.access(MONITOR, ("leave", g, state, owner))


def write(memory, g, *words):
    """Writes the words of a granule from the first one on."""
    for i, word in enumerate(words):
        memory.access(MONITOR, ("write", g, i, word))


def finish(call):
    """Makes the call to its end; returns its answer."""
    answer = None
    while answer is None:
        answer = call.step()
    return answer


def do(memory, *calls, processor=0):
    """Makes calls of point [21], each of which has to do its work."""
    for call in calls:
        answer = finish(Call(memory, processor, call))
        if answer != ("ok",):
            raise AssertionError((call, answer))


def requests(memory, since):
    """The list of the tuples (actor, request) of the accesses from this number on."""
    return [(actor, request) for _, actor, request, _ in memory.log()[since:]]


def wipes(g):
    return [("write", g, i, 0) for i in range(4)]


def is_plain(value):
    """True if a value is made of tuples, strings, integers, None and atoms."""
    if type(value) is tuple:
        return all(is_plain(part) for part in value)
    return value is None or type(value) in (str, int, Atom)


PROGRAM = (("set", 0, 5), ("tell", 0, 1), ("end",))
REGISTERS = (1, "a", None, (2,))
SOURCE = (10, "b", (None,), challenge(4))

# Where the parts of the realm of `realm` are; FREE are free granules, SHARED is one of the host.
D, ROOT, LEAF, HIGH_LEAF, DATA, CPU = 1, 2, 3, 4, 5, 6
FREE, OTHER_FREE, SHARED, SOURCE_AT = 7, 8, 20, 21
# The pages of the realm: one with data, one that shares a granule; the others of their leaf tables were never used.
PAGE, HIGH_PAGE = 1, 10
MEASURE = (("page", PAGE, SOURCE), ("cpu", PROGRAM, REGISTERS))


def realm(state="active", program=PROGRAM, registers=REGISTERS):
    """A memory with a realm that has two leaf tables, a data granule, a virtual processor and a shared page."""
    memory = Memory()
    for i, word in enumerate(SOURCE):
        memory.access(HOST, ("write", SOURCE_AT, i, word))
    do(memory, *[("delegate", g) for g in range(1, 9)])
    do(
        memory, ("create", D, ROOT), ("table_create", D, LEAF, 0), ("table_create", D, HIGH_LEAF, 2),
        ("data_create", D, DATA, SOURCE_AT, PAGE), ("share", D, HIGH_PAGE, SHARED),
        ("cpu_create", D, CPU, program, registers),
    )
    if state == "active":
        do(memory, ("activate", D))
    elif state == "dying":
        do(memory, ("kill", D))
    elif state != "new":
        write(memory, D, state)
    return memory


class CallCase(unittest.TestCase):
    """Asks for the whole list of the accesses of a call."""

    def make(self, memory, processor, call):
        """A call of the kind that is tested."""
        return Call(memory, processor, call)

    def makes(self, memory, call, expected, answer, processor=0):
        """Makes the call; asks for its accesses, its answers on the way, its states, and copies at each step."""
        since = len(memory.log())
        made = self.make(memory, processor, call)
        copies, states = [], []
        for number in range(len(expected)):
            self.assertIsNone(made.answer())
            self.assertEqual(len(memory.log()), since + number)
            other = memory.copy()
            copies.append((other, made.copy(other)))
            states.append(made.state())
            given = made.step()
            self.assertEqual(
                requests(memory, since), [(("monitor", processor), request) for request in expected[:number + 1]], call
            )
            self.assertEqual(given, answer if number == len(expected) - 1 else None, call)
        self.assertEqual(made.answer(), answer)
        states.append(made.state())
        self.ended(memory, made)
        self.states_are_right(states)
        for (other, copy), state in zip(copies, states):
            self.assertEqual(copy.state(), state)
            self.assertEqual(finish(copy), answer)
            self.assertEqual(contents(other), contents(memory))
            self.assertEqual(copy.state(), states[-1])

    def ended(self, memory, made):
        """Asks that nothing goes on behind the answer."""
        before, answer, state = contents(memory), made.answer(), made.state()
        with self.assertRaises(NotValid):
            made.step()
        self.assertEqual(contents(memory), before)
        self.assertEqual((made.answer(), made.state()), (answer, state))
        other = made.copy(memory)
        self.assertEqual((other.answer(), other.state()), (answer, state))
        with self.assertRaises(NotValid):
            other.step()

    def states_are_right(self, states):
        """Asks that states are plain, and tell how far a call has come."""
        for at, state in enumerate(states):
            self.assertTrue(is_plain(state), state)
            self.assertNotIn(state, states[:at])

    def refuses(self, memory, call, done, many, held=2):
        """Asks that the call makes so many of its accesses, releases what it holds, and answers that it is refused."""
        expected = done[:many] + [("release", request[1]) for request in done[:held]]
        self.makes(memory, call, expected, ("no",))

    def is_busy_where_it_holds(self, make_memory, call, done, held):
        """Asks that the call is busy if one of its first granules is held, and releases those ahead of it."""
        for at in range(held):
            for processor, holder in ((0, 1), (2, 0), (1, 1)):
                memory = make_memory()
                memory.access(("monitor", holder), ("hold", done[at][1]))
                before = contents(memory)[1:]
                expected = done[:at + 1] + [("release", request[1]) for request in done[:at]]
                self.makes(memory, call, expected, ("busy",), processor)
                self.assertEqual(contents(memory)[1:], before)


# Words 0 of a realm that are none of "new", "active" and "dying".
MOVING = (("freezing", 1), ("frozen", 1), ("gone", 1, "there"), ("coming", ticket(), ()))
STATES = ("new", "active", "dying") + MOVING
# How a granule can be, where another state of it is asked.
STATUSES = {
    "host": None, "free": None, "desc": None, "table": D, "cpu": D, "running": D, "data": D,
}


def put(g, i, word):
    """A change of a memory: a word."""
    return lambda memory: memory.access(MONITOR, ("write", g, i, word))


def status(g, state, owner=None):
    """A change of a memory: a status."""
    return lambda memory: leave(memory, g, state, owner)


class RealmCase(CallCase):
    """Asks what a call of a realm does, and each thing that it asks."""

    def start(self, state):
        """The memory on which the call is made, with a realm in this state."""
        return realm(state)

    def does(self, call, expected, state="active", changes=(), processor=0, n=1):
        """The call does its work on the realm, with these accesses; returns the memory."""
        memory = self.start(state)
        for change in changes:
            change(memory)
        self.makes(memory, call, expected, self.good(n), processor)
        return memory

    def good(self, n):
        """The answer of the call that did its work, with the ticket n of its waiting."""
        return ("ok",)

    def fails(self, call, done, many, *changes, state="active", held=1):
        """The call is refused behind so many of its accesses, and changes nothing."""
        memory = self.start(state)
        for change in changes:
            change(memory)
        before = contents(memory)[1:]
        self.refuses(memory, call, done, many, held)
        self.assertEqual(contents(memory)[1:], before)

    def tells_no_words(self, call, g, words, state):
        """The states of the call tell nothing of the words of the granule, which its answer hides."""
        memory, other = self.start(state), self.start(state)
        write(other, g, *words)
        one, two = self.make(memory, 0, call), self.make(other, 0, call)
        states = []
        while one.answer() is None:
            self.assertEqual(one.state(), two.state())
            self.assertNotIn(one.state(), states)
            states.append(one.state())
            one.step(), two.step()
        self.assertEqual(one.state(), two.state())
        self.assertNotEqual(one.answer(), two.answer())
        self.assertEqual(strip(one.answer()), strip(two.answer()))

    def asks_for_realm(self, call, done, held, right, state):
        """Asks that d has to be a realm in one of the right states."""
        for other, owner in STATUSES.items():
            if other != "desc":
                self.fails(call, done, held, status(D, other, owner), state=state, held=held)
        for other in STATES:
            if other not in right:
                self.fails(call, done, held + 1, put(D, 0, other), state=state, held=held)
            else:
                memory = self.start(state)
                write(memory, D, other)
                self.assertEqual(finish(self.make(memory, 0, call))[0], "ok", (call, other))
        # A word of another form is no state of a realm, whatever it begins with.
        if len(right) < len(STATES):
            for other in ("", "Active", "coming", ("new",), ("active", 1), ("dying",), (), 0, None, challenge(0)):
                self.fails(call, done, held + 1, put(D, 0, other), state=state, held=held)

    def asks_for_state(self, call, done, many, g, right, state, held=2):
        """Asks that another granule has to have a state."""
        for other, owner in STATUSES.items():
            if other != right:
                self.fails(call, done, many, status(g, other, owner), state=state, held=held)

    def asks_for_entry(self, call, done, many, page, right, state, held):
        """Asks that there has to be an entry, and that it is one of the right ones."""
        root_word = page // 4
        for word in (None, ("leaving", LEAF, None), ("leaving", LEAF, 1)):
            self.fails(call, done, many - 1, put(ROOT, root_word, word), state=state, held=held)
        leaf = LEAF if page < 8 else HIGH_LEAF
        for entry in (
            None, ("data", DATA), ("shared", SHARED), ("leaving", DATA, None), ("leaving", DATA, 1), ("out", 1), "destroyed",
        ):
            if (entry if entry in (None, "destroyed") else entry[0]) not in right:
                self.fails(call, done, many, put(leaf, page % 4, entry), state=state, held=held)


class WaitingCase(RealmCase):
    """What the calls have in common that wait for the processors: [22]."""

    def waits(self, call, ahead, t, i, word, behind, state):
        """The call waits: ahead of it and behind it it makes these accesses; word is ("table", h) or ("data", h)."""
        h = word[1]
        seen = [("seen", q) for q in range(3)]
        begun = ahead + [("write", t, i, ("leaving", h, None)), ("ticket",), ("write", t, i, ("leaving", h, 5))]
        at_entry = ahead[:ahead.index(("read", t, i)) + 1]

        def end(n):
            return seen + [("hold", h), *behind(n)]

        stale = [lambda memory: [memory.access(MONITOR, ("ticket",)) for _ in range(4)]]
        self.does(call, begun + end(5), state, stale, n=5)
        self.does(call, at_entry + begun[-2:] + end(5), state, stale + [put(t, i, ("leaving", h, None))], n=5)
        self.does(call, at_entry + end(3), state, stale + [put(t, i, ("leaving", h, 3))], n=3)
        for q in range(3):
            self.waits_for(q, call, begun, at_entry, seen, end, (t, i, h, state))
        memory = self.there(state, 1, D, 0)
        memory.access(("monitor", 0), ("present", D))
        self.makes(memory, call, begun + seen[:1] + [("release", D)], ("busy",))
        self.is_busy_if_held(call, begun, at_entry, seen, (t, i, h, state))

    def there(self, state, q, realm_of_it, drop):
        """A memory in which a processor is present, with its last drop, and 4 tickets are given."""
        memory = self.start(state)
        for number in range(1, 5):
            memory.access(MONITOR, ("ticket",))
            if number == drop:
                memory.access(("host", q), ("drop",))
        memory.access(("monitor", q), ("present", realm_of_it))
        return memory

    def waits_for(self, q, call, begun, at_entry, seen, end, where):
        """The call waits for the processor q."""
        t, i, h, state = where
        busy = seen[:q + 1] + [("release", D)]
        memory = self.there(state, q, D, 4)
        self.makes(memory, call, begun + busy, ("busy",))
        self.assertEqual(memory.words(t)[i], ("leaving", h, 5))
        self.assertIsNone(memory.status(h)[2])
        # It can be made again, and waits as long as the last drop is less than the ticket.
        self.makes(memory, call, at_entry + busy, ("busy",), 1)
        memory.access(("host", q), ("drop",))
        self.makes(memory, call, at_entry + end(5), self.good(5), 2)
        for drop, n in ((4, 4), (4, 3), (1, 1)):
            memory = self.there(state, q, D, drop)
            memory.access(MONITOR, ("write", t, i, ("leaving", h, n)))
            self.makes(memory, call, at_entry + end(n), self.good(n))
        for drop, n in ((3, 4), (0, 1), (1, 2)):
            memory = self.there(state, q, D, drop)
            memory.access(MONITOR, ("write", t, i, ("leaving", h, n)))
            self.makes(memory, call, at_entry + busy, ("busy",))
        # A processor that is elsewhere is not waited for.
        for other in (None, ROOT, FREE):
            self.makes(self.there(state, q, other, 0), call, begun + end(5), self.good(5))

    def is_busy_if_held(self, call, begun, at_entry, seen, where):
        """The granule that is taken away is held already."""
        t, i, h, state = where
        for holder in range(3):
            memory = self.there(state, 0, None, 0)
            memory.access(("monitor", holder), ("hold", h))
            self.makes(memory, call, begun + seen + [("hold", h), ("release", D)], ("busy",), 1)
            self.assertEqual(memory.words(t)[i], ("leaving", h, 5))
            self.assertEqual(memory.status(h)[2], holder)
            self.makes(memory, call, at_entry + seen + [("hold", h), ("release", D)], ("busy",), 2)
            memory.access(("monitor", holder), ("release", h))
            self.assertEqual(finish(self.make(memory, 1, call)), self.good(5))


class FormCase(unittest.TestCase):
    """Asks what values have a form that a table tells: forms are right ones, with the kinds of their parts."""

    RIGHT = {}
    WRONG = {}

    def is_form(self, value):
        raise NotImplementedError

    def asks_for_forms(self, forms):
        for value, kinds in forms:
            self.assertIs(self.is_form(value), True, value)
            for other in (
                value + (0,), value + (None,), value[:-1], list(value), (value,), (value[0].upper(),) + value[1:],
                (value[0] + " ",) + value[1:], (TrickyText(value[0]),) + value[1:], value[1:], value + value[1:],
            ):
                self.assertIs(self.is_form(other), False, other)
            for at, kind in enumerate(kinds):
                rest = [part for number, part in enumerate(value[1:]) if number != at and kinds[number] == "g"]
                for part in self.RIGHT[kind]:
                    if kind != "g" or part not in rest:
                        self.assertIs(self.is_form(value[:at + 1] + (part,) + value[at + 2:]), True, (value, at, part))
                for part in self.WRONG[kind] + NO_WORDS:
                    self.assertIs(self.is_form(value[:at + 1] + (part,) + value[at + 2:]), False, (value, at, part))

    def asks_for_different_granules(self, forms):
        for value, kinds in forms:
            places = [at + 1 for at, kind in enumerate(kinds) if kind == "g"]
            for one in places:
                for other in places:
                    if one != other:
                        equal = value[:one] + (value[other],) + value[one + 1:]
                        self.assertIs(self.is_form(equal), False, equal)
