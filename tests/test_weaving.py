"""Point [23]: calls in drawn weavings against the same calls made one by one."""

import random
import unittest

from hermitcell.calls import Call
from hermitcell.memory import GRANULES
from hermitcell.paging import Paging
from hermitcell.tables import tables_fault
from tests.helpers import (
    CPU, D, DATA, HIGH_PAGE, LEAF, MONITOR, PAGE, PROGRAM, REGISTERS, ROOT, SHARED, SOURCE_AT, do, finish, realm,
)

FREE = (7, 8, 9, 10)
EMPTY_LEAF = 11


def drawn_call(draw):
    """A call of which there is some hope that it does its work."""
    g, other = draw.sample(FREE, 2)
    # Calls that only hold what others take away make these busy, also behind a ("leaving", ..).
    taken = draw.choice((LEAF, DATA, CPU, ROOT, EMPTY_LEAF, D))
    page = draw.choice((0, PAGE, 2, 4))
    return draw.choice((
        ("delegate", g), ("undelegate", g), ("delegate", taken), ("undelegate", taken), ("create", g, other),
        ("destroy", g), ("kill", g), ("table_create", g, other, 1), ("table_create", D, g, draw.choice((0, 1, 3))),
        ("table_destroy", D, draw.choice((0, 1, 2))), ("table_destroy", D, 3), ("delegate", EMPTY_LEAF), ("delegate", DATA),
        ("data_create", D, g, SOURCE_AT, page), ("data_fresh", D, g, page),
        ("data_destroy", D, page), ("data_destroy", D, PAGE), ("share", D, 9, SHARED), ("unshare", D, HIGH_PAGE),
        ("cpu_create", D, g, PROGRAM, REGISTERS), ("cpu_destroy", D, CPU), ("activate", D),
        draw.choice((("kill", D), ("page_out", D, PAGE))),
    ))


def begun(memory, processor, call):
    if call[0] == "page_out":
        return Paging(memory, processor, call, "m")
    return Call(memory, processor, call)


def is_wait(request):
    """True if an access writes a word ("leaving", ..)."""
    return request[0] == "write" and type(request[3]) is tuple and request[3][:1] == ("leaving",)


def row_of(log, processor, call, answer):
    """What `weave` tells of a call, which alone was made by the processor."""
    part = [row for row in log if row[1] == ("monitor", processor)]
    holds = [number for number, _, request, result in part if request[0] == "hold" and result is not None]
    return (max(holds, default=None), call, answer, [request for _, _, request, _ in part if is_wait(request)])


def weave(memory, draw, many):
    """Makes drawn calls on all processors; returns the list of (last hold, call, answer, what was left leaving)."""
    going, made = {}, []
    waiting = [drawn_call(draw) for _ in range(many)]
    while going or waiting:
        p = draw.randrange(3)
        if p not in going:
            if waiting:
                call = waiting.pop()
                going[p] = [begun(memory, p, call), call, None, []]
            continue
        row = going[p]
        for _ in range(draw.choice((1, 1, 2, 5))):
            answer = row[0].step()
            number, _, request, result = memory.log()[-1]
            if request[0] == "hold" and result is not None:
                row[2] = number
            if is_wait(request):
                row[3].append(request)
            if answer is not None:
                made.append((row[2], row[1], answer, row[3]))
                del going[p]
                break
    return made


def plain(value):
    """A value without the numbers of tickets."""
    if type(value) is not tuple:
        return value
    if value[:1] in (("leaving",), ("out",)):
        return value[:-1] + (value[-1] if value[-1] is None else "n",)
    return tuple(plain(part) for part in value)


def left(memory):
    return [(memory.status(g), plain(memory.words(g))) for g in range(GRANULES)]


class WeavingTest(unittest.TestCase):
    def start(self, state):
        memory = realm("new")
        do(memory, ("delegate", 9), ("delegate", EMPTY_LEAF), ("table_create", D, EMPTY_LEAF, 3))
        if state != "new":
            do(memory, ("activate" if state == "active" else "kill", D))
        return memory

    def one_by_one(self, memory, made):
        """Makes the same calls in the order of their last holds; asks for the same answers."""
        for _, call, answer, leaving in sorted([row for row in made if row[0] is not None], key=lambda row: row[0]):
            if answer == ("busy",):
                for request in leaving:
                    memory.access(MONITOR, request)
            else:
                given = finish(begun(memory, 0, call))
                self.assertEqual(given[0], answer[0], call)
                if len(given) > 1:
                    self.assertEqual(given[1].term[3], answer[1].term[3])

    def test_weavings(self):
        seen = {}
        for seed in range(600):
            draw = random.Random(seed)
            state = draw.choice(("new", "active", "active", "dying"))
            memory, other = self.start(state), self.start(state)
            made = weave(memory, draw, 12)
            self.one_by_one(other, made)
            self.assertEqual(left(memory), left(other), seed)
            for last, call, answer, leaving in made:
                key = (call[0], answer[0], bool(leaving))
                seen[key] = seen.get(key, 0) + 1
                # Whoever holds nothing leaves nothing.
                self.assertTrue(last is not None or answer == ("busy",))
            if memory.status(D)[0] == "desc":
                self.assertEqual(tables_fault(memory, ROOT), "")
        # All this has come about.
        for name in ("table_destroy", "data_destroy"):
            for key in ((name, "ok", True), (name, "no", False), (name, "busy", False), (name, "busy", True)):
                self.assertGreater(seen.get(key, 0), 0, key)
        for name in ("create", "table_create", "data_create", "data_fresh", "cpu_create", "delegate", "undelegate", "share"):
            for answer in ("ok", "no", "busy"):
                self.assertGreater(seen.get((name, answer, False), 0), 3, (name, answer))

    def test_one_call_in_the_midst_of_another(self):
        outer = (
            ("table_destroy", D, 3), ("data_destroy", D, PAGE), ("page_out", D, PAGE), ("destroy", D),
            ("data_create", D, 7, SOURCE_AT, 2), ("table_create", D, 7, 1), ("cpu_destroy", D, CPU), ("create", 7, 8),
            ("delegate", EMPTY_LEAF), ("undelegate", DATA),
        )
        inner = outer + (
            ("delegate", CPU), ("delegate", ROOT), ("undelegate", 7),
            ("undelegate", 8), ("kill", D), ("data_fresh", D, 8, 2), ("create", 8, 9), ("share", D, 13, SHARED),
        )
        busy = 0
        for state in ("new", "active", "dying"):
            start = self.start(state)
            for call in outer:
                for other in inner:
                    busy += self.nested(start, call, other)
        self.assertGreater(busy, 5)

    def nested(self, start, call, other):
        """Makes the other call behind each step of the call; returns how often one was busy behind a ("leaving", ..)."""
        at, is_over, busy = 0, False, 0
        while not is_over:
            memory, again = start.copy(), start.copy()
            going = begun(memory, 0, call)
            for _ in range(at):
                going.step()
            is_over = going.answer() is not None
            given = finish(begun(memory, 1, other))
            answer = going.answer() if is_over else finish(going)
            log = memory.log()[len(start.log()):]
            made = [row_of(log, 0, call, answer), row_of(log, 1, other, given)]
            self.one_by_one(again, made)
            self.assertEqual(left(memory), left(again), (call, other, at))
            busy += sum(end == ("busy",) and bool(waits) for _, _, end, waits in made)
            at += 1
        return busy

    def test_all_granules_are_left(self):
        for seed in range(100):
            memory = self.start("active")
            weave(memory, random.Random(seed), 20)
            for g in range(GRANULES):
                self.assertIsNone(memory.status(g)[2])
