"""Points [7] to [10], and what [1] and [2] say of the memory."""

import unittest

from hermitcell import memory as module
from hermitcell.errors import NotValid
from hermitcell.memory import GRANULES, PAGES, PROCESSORS, WORDS, Memory
from tests.helpers import (
    CORE, HOST, MONITOR, NO_WORDS, Hostile, TrickyText, challenge, contents, leave, nested, ranked, seal, token, write,
)

STATES = ("host", "free", "desc", "table", "cpu", "running", "data")
NOT_HOST = STATES[1:]

# A request of each kind for each actor, with what its parts are.
REQUESTS = (
    ("host", ("read", 3, 1), ("granule", "index")),
    ("host", ("write", 3, 1, "a"), ("granule", "index", "word")),
    ("host", ("drop",), ()),
    ("monitor", ("read", 3, 1), ("granule", "index")),
    ("monitor", ("write", 3, 1, "a"), ("granule", "index", "word")),
    ("monitor", ("copy", 3, 1), ("granule", "index")),
    ("monitor", ("hold", 3), ("granule",)),
    ("monitor", ("leave", 3, "data", 4), ("granule", "state", "owner")),
    ("monitor", ("release", 3), ("granule",)),
    ("monitor", ("look", 3), ("granule",)),
    ("monitor", ("swap", 3, "cpu", "running"), ("granule", "state", "state")),
    ("monitor", ("rest", 3), ("granule",)),
    ("monitor", ("present", 3), ("owner",)),
    ("monitor", ("seen", 1), ("processor",)),
    ("monitor", ("ticket",), ()),
    ("monitor", ("once", "a"), ("word",)),
    ("core", ("walk", 3, 1), ("granule", "index")),
    ("core", ("leaf", 3, 3, 1), ("page", "granule", "index")),
    ("core", ("touch", 3, 1), ("page", "index")),
    ("core", ("put", 3, 1, "a"), ("page", "index", "word")),
)
RIGHT = {
    "granule": (0, 15, 23), "index": (0, 1, 2, 3), "page": (0, 7, 8, 15), "processor": (0, 1, 2), "state": STATES,
    "owner": (None, 0, 23), "word": (None, 0, -2 ** 31, 2 ** 31 - 1, "", "a" * 24, nested(40), ranked(40), (1, ("~",))),
}
WRONG_NUMBERS = (-1, 10 ** 30, "1", "", (), (1,), challenge(0), nested(41)) + NO_WORDS
WRONG = {
    "granule": (24, None) + WRONG_NUMBERS, "index": (4, None) + WRONG_NUMBERS, "page": (16, None) + WRONG_NUMBERS,
    "processor": (3, None) + WRONG_NUMBERS, "owner": (24, "") + WRONG_NUMBERS,
    "state": ("", "Host", "none", None, 0, ("host",), challenge(0), TrickyText("host")) + NO_WORDS, "word": NO_WORDS,
}


def worn():
    """A memory in which all of [7] and [8] is something else than at first."""
    memory = Memory()
    write(memory, 3, ("data", 5), ("shared", 6), "x", seal())
    memory.access(MONITOR, ("ticket",))
    memory.access(HOST, ("drop",))
    memory.access(MONITOR, ("ticket",))
    memory.access(MONITOR, ("once", (1, token(2))))
    memory.access(MONITOR, ("present", 9))
    memory.access(CORE, ("walk", 3, 0))
    memory.access(CORE, ("leaf", 3, 3, 0))
    memory.access(CORE, ("walk", 3, 0))
    memory.access(("monitor", 1), ("hold", 4))
    leave(memory, 3, "table", 9)
    return memory


class MemoryCase(unittest.TestCase):
    def setUp(self):
        self.memory = Memory()

    def gives(self, result, *request, actor=MONITOR):
        """Makes an access, asks for its result, and that it stands in the log."""
        number = len(self.memory.log())
        given = self.memory.access(actor, request)
        self.assertEqual(given, result)
        self.assertIs(type(given), type(result))
        self.assertEqual(self.memory.log()[number:], [(number, actor, request, result)])

    def stays(self, result, *request, actor=MONITOR):
        """The same for an access that changes nothing but the log."""
        before = contents(self.memory)[1:]
        self.gives(result, *request, actor=actor)
        self.assertEqual(contents(self.memory)[1:], before)

    def state(self, g, state, owner=None, holder=None):
        leave(self.memory, g, state, owner)
        if holder is not None:
            self.memory.access(("monitor", holder), ("hold", g))

    def row(self, page, row, processor=0):
        """Gives a processor a row, by a walk."""
        before = self.memory.words(23)
        write(self.memory, 23, row)
        self.memory.access(("core", processor), ("walk", 22, 0))
        self.memory.access(("core", processor), ("leaf", page, 23, 0))
        write(self.memory, 23, before[0])


class FirstTest(MemoryCase):
    def test_constants(self):
        self.assertEqual((GRANULES, WORDS, PROCESSORS, PAGES), (24, 4, 3, 16))
        self.assertEqual(Memory.__module__, module.__name__)

    def test_at_first(self):
        for g in range(24):
            self.assertEqual(self.memory.status(g), ("host", None, None))
            self.assertEqual(self.memory.words(g), (0, 0, 0, 0))
        for p in range(3):
            self.assertIsNone(self.memory.presence(p))
            self.assertEqual(self.memory.rows(p), {})
            self.assertIs(self.memory.walks(p), False)
            self.assertEqual(self.memory.dropped(p), 0)
        self.assertEqual(self.memory.tickets(), 0)
        self.assertEqual(self.memory.taken(), ())
        self.assertEqual(self.memory.log(), [])

    def test_numbers_that_do_not_exist(self):
        for tell, many in (
            (self.memory.status, 24), (self.memory.words, 24), (self.memory.presence, 3), (self.memory.rows, 3),
            (self.memory.walks, 3), (self.memory.dropped, 3),
        ):
            tell(many - 1)
            for wrong in (many, -1, True):
                with self.assertRaises(NotValid):
                    tell(wrong)


class HostTest(MemoryCase):
    def test_read(self):
        write(self.memory, 5, 7, "a", (1,), seal())
        for i, word in enumerate((7, "a", (1,), seal())):
            self.stays(("word", word), "read", 5, i, actor=HOST)
        for state in NOT_HOST:
            self.state(5, state)
            self.stays(("refused",), "read", 5, 0, actor=HOST)
        self.state(5, "host", None, 1)
        self.stays(("word", 7), "read", 5, 0, actor=HOST)

    def test_write(self):
        self.gives(("done",), "write", 5, 2, (1, "a"), actor=("host", 2))
        self.assertEqual(self.memory.words(5), (0, 0, (1, "a"), 0))
        for state in NOT_HOST:
            self.state(5, state)
            self.stays(("refused",), "write", 5, 2, 9, actor=HOST)
        self.state(5, "host", None, 1)
        self.gives(("done",), "write", 5, 2, 9, actor=HOST)
        self.assertEqual(self.memory.words(5), (0, 0, 9, 0))
        self.assertEqual(self.memory.words(4) + self.memory.words(6), (0,) * 8)

    def test_drop(self):
        self.memory = worn()
        self.gives(3, "ticket")
        self.assertTrue(self.memory.walks(0))
        self.gives(None, "drop", actor=HOST)
        self.assertEqual((self.memory.rows(0), self.memory.walks(0), self.memory.dropped(0)), ({}, False, 3))
        self.assertEqual(self.memory.presence(0), 9)
        self.gives(4, "ticket")
        self.assertEqual([self.memory.dropped(p) for p in range(3)], [3, 0, 0])

    def test_drop_is_of_the_processor(self):
        self.row(1, ("data", 2), 0)
        self.row(1, ("data", 2), 1)
        self.memory.access(("core", 1), ("walk", 0, 0))
        self.gives(1, "ticket")
        self.gives(None, "drop", actor=HOST)
        self.assertEqual((self.memory.rows(1), self.memory.walks(1)), ({1: ("data", 2)}, True))
        self.assertEqual([self.memory.dropped(p) for p in range(3)], [1, 0, 0])


class MonitorTest(MemoryCase):
    def test_read_and_write_in_each_state(self):
        for state in STATES:
            self.state(5, state, None, 1)
            self.gives(None, "write", 5, 3, state)
            self.stays(state, "read", 5, 3)
        self.assertEqual(self.memory.words(5), (0, 0, 0, "data"))
        self.gives(None, "write", 5, 0, None)
        self.stays(None, "read", 5, 0)

    def test_copy(self):
        write(self.memory, 5, 7)
        self.stays(("word", 7), "copy", 5, 0)
        for state in NOT_HOST:
            self.state(5, state)
            self.stays(("refused",), "copy", 5, 0)
        self.state(5, "host", 3, 0)
        self.stays(("word", 7), "copy", 5, 0)

    def test_hold(self):
        for state in STATES:
            self.state(5, state, 4)
            self.gives((state, 4), "hold", 5, actor=("monitor", 2))
            self.assertEqual(self.memory.status(5), (state, 4, 2))
            for p in range(3):
                self.stays(None, "hold", 5, actor=("monitor", p))
        self.gives(("host", None), "hold", 6)
        self.assertEqual(self.memory.status(6), ("host", None, 0))

    def test_leave(self):
        for holder in (None, 0, 1):
            for state in STATES:
                for owner in (None, 0, 23):
                    self.state(5, "cpu", 7, holder)
                    self.gives(None, "leave", 5, state, owner)
                    self.assertEqual(self.memory.status(5), (state, owner, None))

    def test_release(self):
        self.state(5, "table", 4, 1)
        for p in (0, 2):
            self.stays(None, "release", 5, actor=("monitor", p))
        self.gives(None, "release", 5, actor=("monitor", 1))
        self.assertEqual(self.memory.status(5), ("table", 4, None))
        self.stays(None, "release", 5, actor=("monitor", 1))

    def test_look(self):
        self.stays(("host", None, None), "look", 5)
        self.state(5, "running", 4, 0)
        self.stays(("running", 4, 0), "look", 5, actor=("monitor", 2))

    def test_swap(self):
        for old in STATES:
            for new in STATES:
                self.state(5, old, 4)
                self.gives(True, "swap", 5, old, new)
                self.assertEqual(self.memory.status(5), (new, 4, None))
                self.state(5, old, 4, 0)
                self.stays(False, "swap", 5, old, new)
        self.state(5, "running", 4)
        self.stays(False, "swap", 5, "cpu", "running")

    def test_rest(self):
        for holder in (None, 0, 2):
            self.state(5, "running", 4, holder)
            self.gives(None, "rest", 5)
            self.assertEqual(self.memory.status(5), ("cpu", 4, holder))
            for state in STATES:
                if state != "running":
                    self.state(5, state, 4, holder)
                    self.stays(None, "rest", 5)

    def test_present(self):
        for d in (4, None, 0):
            self.row(1, ("data", 2), 0)
            self.row(1, ("data", 2), 1)
            for p in (0, 1):
                self.memory.access(("core", p), ("walk", 0, 0))
            self.gives(None, "present", d)
            self.assertEqual((self.memory.presence(0), self.memory.rows(0), self.memory.walks(0)), (d, {}, False))
            self.assertEqual((self.memory.presence(1), self.memory.walks(1)), (None, True))
            self.assertEqual(self.memory.rows(1), {1: ("data", 2)})

    def test_present_leaves_the_last_drop(self):
        self.gives(1, "ticket")
        self.gives(None, "drop", actor=HOST)
        self.gives(2, "ticket")
        self.gives(None, "present", 3)
        self.assertEqual(self.memory.dropped(0), 1)

    def test_seen(self):
        self.stays((None, 0), "seen", 2)
        self.gives(1, "ticket")
        self.gives(None, "drop", actor=("host", 2))
        self.gives(None, "present", 7, actor=("monitor", 2))
        for p in range(3):
            self.stays((7, 1), "seen", 2, actor=("monitor", p))
        self.stays((None, 0), "seen", 0)

    def test_ticket(self):
        for n in range(1, 6):
            self.gives(n, "ticket", actor=("monitor", n % 3))
            self.assertEqual(self.memory.tickets(), n)

    def test_once(self):
        told = (None, 0, 1, "", "0", (), (1,), (1, ("a",)), seal(), seal(words=None), token(1), ("m", 1))
        for word in told:
            self.gives(True, "once", word, actor=("monitor", 1))
        for word in (None, 0, 1, "", "0", (), (1,), (1, ("a",)), seal(), seal(words=None), token(1), ("m", 1)):
            self.stays(False, "once", word)
        self.assertEqual(self.memory.taken(), told)


class CoreTest(MemoryCase):
    def test_walk(self):
        write(self.memory, 5, 7, ("table", 4))
        for state in STATES:
            self.state(5, state, None, 2)
            self.gives(("word", 7), "walk", 5, 0, actor=("core", 1))
            self.gives(("word", ("table", 4)), "walk", 5, 1, actor=("core", 1))
        self.assertEqual([self.memory.walks(p) for p in range(3)], [False, True, False])
        self.assertEqual(self.memory.rows(1), {})

    def test_leaf_without_a_walk(self):
        write(self.memory, 5, ("data", 4))
        self.memory.access(("core", 1), ("walk", 5, 0))
        self.stays(("again",), "leaf", 2, 5, 0, actor=CORE)

    def test_leaf_makes_a_row(self):
        for page in range(16):
            for row in (("data", 4), ("shared", 4), ("data", 0), ("shared", 23)):
                write(self.memory, 5, 0, row)
                self.memory.access(CORE, ("walk", 6, 0))
                self.gives(("word", row), "leaf", page, 5, 1, actor=CORE)
                self.assertEqual((self.memory.rows(0)[page], self.memory.walks(0)), (row, False))
                self.stays(("again",), "leaf", page, 5, 1, actor=CORE)
        self.assertEqual(len(self.memory.rows(0)), 16)
        self.assertEqual((self.memory.rows(1), self.memory.rows(2)), ({}, {}))

    def test_leaf_of_what_makes_no_row(self):
        self.row(2, ("data", 9))
        for word in (
            None, 0, "data", "destroyed", (), ("data",), ("data", 4, None), ("data", 24), ("data", -1), ("data", "4"),
            ("data", None), ("data", (4,)), ("data", seal()), ("leaving", 4, None), ("out", 1), ("table", 4), (4, 4),
            ("shared", 24), (challenge(0), 4), seal(),
        ):
            write(self.memory, 5, word)
            self.memory.access(CORE, ("walk", 6, 0))
            self.gives(("word", word), "leaf", 2, 5, 0, actor=CORE)
            self.assertEqual((self.memory.rows(0), self.memory.walks(0)), ({2: ("data", 9)}, False))
            self.stays(("again",), "leaf", 2, 5, 0, actor=CORE)

    def test_touch_and_put_without_a_row(self):
        self.row(2, ("data", 9))
        for p, page in ((0, 1), (0, 3), (1, 2)):
            self.stays(("none",), "touch", page, 0, actor=("core", p))
            self.stays(("none",), "put", page, 0, 5, actor=("core", p))

    def test_touch_and_put_by_each_row(self):
        for state in STATES:
            for kind in ("data", "shared"):
                for page in (2, 12):
                    self.memory = Memory()
                    write(self.memory, 9, "a", "b", "c", "d")
                    self.row(page, (kind, 9))
                    self.state(9, state, 4, 2)
                    if (kind == "shared") == (state == "host"):
                        self.stays(("word", "c"), "touch", page, 2, actor=CORE)
                        self.gives(("done",), "put", page, 2, (1, "z"), actor=CORE)
                        self.assertEqual(self.memory.words(9), ("a", "b", (1, "z"), "d"))
                        self.stays(("word", (1, "z")), "touch", page, 2, actor=CORE)
                    else:
                        self.stays(("fault",), "touch", page, 2, actor=CORE)
                        self.stays(("fault",), "put", page, 2, 5, actor=CORE)

    def test_a_put_leaves_all_else(self):
        self.row(2, ("shared", 9))
        before = contents(self.memory)
        self.gives(("done",), "put", 2, 1, 5, actor=CORE)
        after = contents(self.memory)
        self.assertEqual(after[2][9], (0, 5, 0, 0))
        after[2][9] = (0, 0, 0, 0)
        self.assertEqual(after[1:], before[1:])

    def test_a_walk_outlives_what_does_not_end_it(self):
        self.memory.access(CORE, ("walk", 5, 0))
        for request in (("touch", 1, 0), ("put", 1, 0, 1), ("walk", 5, 1)):
            self.memory.access(CORE, request)
        self.memory.access(("monitor", 1), ("present", None))
        self.memory.access(("host", 1), ("drop",))
        self.assertTrue(self.memory.walks(0))


class RefusalTest(MemoryCase):
    def refuses(self, memory, actor, request):
        with self.assertRaises(NotValid):
            memory.access(actor, request)

    def test_right_parts(self):
        for kind, request, forms in REQUESTS:
            for at, form in enumerate(forms, 1):
                for part in RIGHT[form]:
                    worn().access((kind, 0), request[:at] + (part,) + request[at + 1:])

    def test_wrong_parts(self):
        memory = worn()
        before = contents(memory)
        for kind, request, forms in REQUESTS:
            for at, form in enumerate(forms, 1):
                for part in WRONG[form]:
                    self.refuses(memory, (kind, 0), request[:at] + (part,) + request[at + 1:])
        self.assertEqual(contents(memory), before)

    def test_wrong_numbers_of_parts(self):
        memory = worn()
        before = contents(memory)
        for kind, request, _ in REQUESTS:
            for wrong in (
                request[:-1], request + (None,), request + (0,), request + (1, 1), list(request), (request,),
                request[1:], (), (None,) + request[1:], (request[0].upper(),) + request[1:], request[0],
                ([request[0]],) + request[1:], (Hostile(),) + request[1:], ((request[0],),) + request[1:],
                (TrickyText(request[0]),) + request[1:],
            ):
                self.refuses(memory, (kind, 0), wrong)
        for wrong in (None, 0, "", "drop", "ticket", seal()) + NO_WORDS:
            for kind in ("host", "monitor", "core"):
                self.refuses(memory, (kind, 0), wrong)
        self.assertEqual(contents(memory), before)

    def test_requests_of_another_actor(self):
        memory = worn()
        before = contents(memory)
        told = {(kind, request[0], len(request)) for kind, request, _ in REQUESTS}
        many = 0
        for _, request, _ in REQUESTS:
            for kind in ("host", "monitor", "core"):
                if (kind, request[0], len(request)) not in told:
                    many += 1
                    self.refuses(memory, (kind, 0), request)
        self.assertGreater(many, 30)
        self.assertEqual(contents(memory), before)

    def test_wrong_actors(self):
        memory = worn()
        before = contents(memory)
        for kind, request, _ in REQUESTS:
            for actor in (
                (kind, 3), (kind, -1), (kind, True), (kind, None), (kind, "0"), (kind, 0.0), (kind,), (kind, 0, 0),
                [kind, 0], kind, None, 0, (), ("realm", 0), ("", 0), (kind.upper(), 0), (None, 0), ([kind], 0),
                (Hostile(), 0), (kind, Hostile()), (TrickyText("x"), 0), Hostile(), {kind: 0}, seal(),
            ):
                self.refuses(memory, actor, request)
        self.assertEqual(contents(memory), before)


class LogTest(MemoryCase):
    def test_all_accesses_are_numbered(self):
        accesses = (
            (HOST, ("write", 3, 0, 7), ("done",)), (("monitor", 1), ("hold", 3), ("host", None)),
            (("monitor", 2), ("hold", 3), None), (("monitor", 1), ("leave", 3, "free", None), None),
            (("host", 2), ("read", 3, 0), ("refused",)), (CORE, ("leaf", 0, 0, 0), ("again",)),
            (("core", 1), ("walk", 3, 0), ("word", 7)), (MONITOR, ("swap", 3, "cpu", "running"), False),
        )
        for number, (actor, request, result) in enumerate(accesses):
            self.assertEqual(self.memory.access(actor, request), result)
            with self.assertRaises(NotValid):
                self.memory.access(actor, request + (0,))
            self.assertEqual(len(self.memory.log()), number + 1)
        self.assertEqual(self.memory.log(), [(n, *access) for n, access in enumerate(accesses)])

    def test_the_last_access(self):
        self.assertIsNone(self.memory.last())
        self.memory.access(HOST, ("write", 3, 0, 7))
        self.assertEqual(self.memory.last(), (0, HOST, ("write", 3, 0, 7), ("done",)))
        self.memory.access(MONITOR, ("hold", 3))
        self.assertEqual(self.memory.last(), self.memory.log()[-1])

    def test_a_change_is_no_access(self):
        memory = worn()
        before, words = contents(memory), memory.words(5)
        memory.change(5, 2, "changed")
        self.assertEqual(memory.words(5), words[:2] + ("changed",) + words[3:])
        memory.change(5, 2, words[2])
        self.assertEqual(contents(memory), before)

    def test_looking_is_no_access(self):
        memory = worn()
        before = memory.log()
        contents(memory)
        memory.copy()
        self.assertEqual(memory.log(), before)

    def test_what_is_told_is_the_callers(self):
        memory = worn()
        before = contents(memory)
        log, rows = memory.log(), memory.rows(0)
        memory.log().clear()
        memory.rows(0).clear()
        memory.rows(0)[3] = ("data", 23)
        self.assertEqual(contents(memory), before)
        memory.access(HOST, ("drop",))
        self.assertEqual((log, rows), (before[0], {3: ("data", 5)}))
        self.assertIs(type(memory.words(3)), tuple)
        self.assertIs(type(memory.taken()), tuple)


class CopyTest(MemoryCase):
    def test_it_is_the_same(self):
        memory = worn()
        self.assertEqual(contents(memory.copy()), contents(memory))
        self.assertEqual(contents(memory.copy().copy()), contents(memory))

    def test_each_goes_on_by_itself(self):
        for one_goes_on in (True, False):
            for kind, request, _ in REQUESTS:
                memory = worn()
                leave(memory, 3, "running" if request[0] == "rest" else "host")
                before = contents(memory)
                other = memory.copy()
                moving, still = (memory, other) if one_goes_on else (other, memory)
                moving.access((kind, 0), request)
                self.assertNotEqual(contents(moving), before)
                self.assertEqual(contents(still), before)

    def test_both_go_on_alike(self):
        memory = worn()
        leave(memory, 5, "data", 9)
        other = memory.copy()
        for kind, request, _ in REQUESTS + REQUESTS:
            self.assertEqual(memory.access((kind, 0), request), other.access((kind, 0), request))
        self.assertEqual(contents(other), contents(memory))
