"""Points [45] and [46]."""

import random
import unittest

from hermitcell import audit as audit_file
from hermitcell.audit import audit, realms
from hermitcell.memory import Memory
from hermitcell.world import World
from tests.helpers import (
    CPU, D, DATA, FREE, HIGH_LEAF, HIGH_PAGE, LEAF, MEASURE, MONITOR, OTHER_FREE, PAGE, ROOT, SHARED, challenge, contents, do,
    leave, nested, put, realm, status, ticket, write,
)
from tests.hosts import PROGRAMS, REGISTERS, Drawn, finish, realm_acts


def hold(g, p=1):
    return lambda memory: memory.access(("monitor", p), ("hold", g))


def release(g, p=1):
    return lambda memory: memory.access(("monitor", p), ("release", g))


def present(p, d=D):
    return lambda memory: memory.access(("monitor", p), ("present", d))


def walked(p, page, entry, t=LEAF):
    """A change that makes a row of a processor, by an entry that stands in the leaf table for this while."""
    def change(memory):
        i = page % 4
        before = memory.words(t)[i]
        memory.access(MONITOR, ("write", t, i, entry))
        memory.access(("core", p), ("walk", ROOT, page // 4))
        memory.access(("core", p), ("leaf", page, t, i))
        memory.access(MONITOR, ("write", t, i, before))
    return change


def all_of(*changes):
    return lambda memory: [change(memory) for change in changes]


RUNNING = status(CPU, "running", D)


class AuditCase(unittest.TestCase):
    def told(self, *changes, start=None):
        memory = realm() if start is None else start
        for change in changes:
            change(memory)
        before = contents(memory)
        found = audit(memory)
        self.assertEqual(contents(memory), before)
        self.assertIs(type(found), str)
        return found

    def holds(self, *changes, start=None):
        self.assertEqual(self.told(*changes, start=start), "")

    def breaks(self, word, *changes, start=None):
        self.assertEqual(self.told(*changes, start=start), word)


class FirstTest(AuditCase):
    def test_all_is_defined_in_its_file(self):
        for each in (audit, realms):
            self.assertEqual(each.__module__, audit_file.__name__)

    def test_the_example(self):
        self.assertEqual(audit(Memory()), "")

    def test_realms_at_rest(self):
        for state in (
            "new", "active", "dying", ("freezing", 1), ("frozen", 2), ("gone", 3, "there"), ("coming", ticket(), (14,)),
        ):
            self.holds(start=realm(state))

    def test_realms(self):
        self.assertEqual(realms(Memory()), [])
        memory = realm()
        do(memory, ("create", FREE, OTHER_FREE))
        self.assertEqual(realms(memory), [D, FREE])
        leave(memory, 23, "desc"), leave(memory, 0, "desc")
        hold(23)(memory)
        found = realms(memory)
        self.assertEqual(found, [0, D, FREE, 23])
        found.clear()
        self.assertEqual(realms(memory), [0, D, FREE, 23])


class StatusTest(AuditCase):
    def test_states_without_an_owner(self):
        for state in ("host", "free"):
            for owner in (D, ROOT, 22):
                self.breaks("status", status(22, state, owner))
        self.breaks("status", status(D, "desc", ROOT))
        self.breaks("status", status(D, "desc", D))

    def test_states_with_an_owner(self):
        for state in ("table", "cpu", "running", "data"):
            for owner in (None, ROOT, FREE, SHARED, 22):
                self.breaks("status", status(22, state, owner))
        self.breaks("status", status(D, "free"))

    def test_an_owner_that_is_not_at_rest(self):
        self.breaks("status", status(FREE, "cpu", OTHER_FREE))
        self.holds(status(FREE, "cpu", OTHER_FREE), hold(OTHER_FREE))
        self.breaks("status", status(FREE, "cpu", OTHER_FREE), hold(OTHER_FREE), release(OTHER_FREE))
        # That the granule itself is held is no matter.
        self.breaks("status", status(FREE, "cpu", OTHER_FREE), hold(FREE))
        self.breaks("status", status(FREE, "free", OTHER_FREE), hold(FREE), hold(OTHER_FREE))


class WordsTest(AuditCase):
    def asks(self, i, wrong, right):
        for word in wrong:
            self.breaks("words", put(D, i, word))
            self.assertNotEqual(self.told(put(D, i, word), hold(D)), "words")
            self.breaks("words", put(D, i, word), hold(D), release(D))
        for word in right:
            self.holds(put(D, i, word))

    def test_the_state(self):
        self.asks(0, (
            None, 0, "", "Active", (), ("active",), ("frozen",), ("frozen", 0), ("frozen", None), ("freezing", -1), ("gone", 1),
            ("gone", 0, "x"), ("gone", 1, 2), ("coming", 1, ()), ("coming", ticket(), 0), ("coming", ticket()), challenge(0),
        ), ("new", "dying", ("freezing", 5), ("gone", 1, ""), ("coming", ticket(), ())))

    def test_the_root(self):
        self.asks(1, (None, -1, 24, "1", (ROOT,), challenge(1), DATA, CPU, D, FREE, SHARED, 0), ())
        self.breaks("words", status(ROOT, "data", D))
        # Another table of the realm is no root of it, but that is told by the tables.
        self.breaks("tables", put(D, 1, LEAF))
        # A table of another realm is none.
        memory = realm()
        do(memory, ("create", FREE, OTHER_FREE))
        self.breaks("words", put(D, 1, OTHER_FREE), start=memory)

    def test_the_measure(self):
        self.asks(2, (None, 0, "()", challenge(0), ticket()), ((), (1, "x"), nested(40), MEASURE + MEASURE))

    def test_the_counts(self):
        self.asks(3, (
            None, 0, 121, (), (1, 2), (1, 2, 1, 0), (1, 2, None), ("1", 2, 1), (1, (2,), 1), (challenge(0), 2, 1), (None,) * 3,
            "121",
        ), ())

    def test_each_realm(self):
        memory = realm()
        do(memory, ("create", FREE, OTHER_FREE))
        self.holds(start=memory.copy())
        self.breaks("words", put(FREE, 0, "none"), start=memory.copy())
        self.breaks("words", put(D, 0, "none"), start=memory.copy())


class TablesTest(AuditCase):
    def test_each_fault(self):
        for change in (
            put(ROOT, 1, 0), put(ROOT, 1, ("table", LEAF)), put(ROOT, 1, ("table", DATA)), put(ROOT, 0, ("table", ROOT)),
            put(LEAF, 0, "gone"), put(LEAF, 0, ("shared", SHARED)), put(HIGH_LEAF, 0, ("data", DATA)),
            put(LEAF, 0, ("data", DATA)),
            put(LEAF, 0, ("data", CPU)), put(LEAF, 0, ("data", FREE)), put(LEAF, 0, ("leaving", FREE, None)),
            put(HIGH_LEAF, 0, ("out", 1)),
        ):
            self.breaks("tables", change)
            self.holds(change, hold(D))
            self.breaks("tables", change, hold(D), release(D))

    def test_a_granule_of_another_realm(self):
        memory = realm()
        do(memory, ("create", FREE, OTHER_FREE))
        leave(memory, DATA, "data", FREE)
        self.breaks("tables", start=memory)


class CountsTest(AuditCase):
    def test_each_count(self):
        for counts in ((0, 2, 1), (2, 2, 1), (1, 1, 1), (1, 3, 1), (1, 2, 0), (1, 2, 2), (-1, 2, 1), (0, 0, 0)):
            self.breaks("counts", put(D, 3, counts))
            self.holds(put(D, 3, counts), hold(D))
            self.breaks("counts", put(D, 3, counts), hold(D), release(D))

    def test_each_state(self):
        for state in ("cpu", "running", "data", "table"):
            self.breaks("counts", status(22, state, D))
            self.holds(status(22, state, D), hold(D))
            self.breaks("counts", status(22, state, D), hold(22))
        self.holds(RUNNING)

    def test_what_stands_nowhere(self):
        self.breaks("counts", status(22, "data", D), put(D, 3, (1, 2, 2)))
        self.breaks("counts", status(22, "table", D), put(D, 3, (1, 3, 1)))
        self.holds(status(22, "cpu", D), put(D, 3, (2, 2, 1)))
        # It has to be the granule itself that stands there.
        self.breaks("counts", put(LEAF, 1, None))
        self.breaks("counts", put(ROOT, 2, None))
        self.breaks("counts", put(LEAF, 1, ("out", 1)))
        for word in (("table", LEAF), ("leaving", LEAF, None), ("leaving", LEAF, 2)):
            # A leaf table that is leaving has no pages, so no data granule stands in it.
            found = self.told(put(ROOT, 0, word))
            self.assertEqual(found, "" if word[0] == "table" else "counts")
        for entry in (("data", DATA), ("leaving", DATA, None), ("leaving", DATA, 3)):
            self.holds(put(LEAF, 1, entry))
        memory = realm()
        write(memory, LEAF, None, None, None, None)
        leave(memory, DATA, "free")
        write(memory, D, "active", ROOT, MEASURE, (1, 2, 0))
        self.holds(put(ROOT, 0, ("leaving", LEAF, 3)), start=memory)


class PresentTest(AuditCase):
    def test_what_is_no_realm(self):
        for p in range(3):
            for d in (ROOT, FREE, SHARED, DATA, 23):
                self.breaks("present", present(p, d))
            self.holds(present(p, D), RUNNING)
            self.breaks("present", hold(FREE), status(22, "running", FREE), present(p, FREE))

    def test_virtual_processors_that_run(self):
        for p in range(3):
            self.breaks("present", present(p))
        self.breaks("present", present(0), present(1), RUNNING)
        other = (status(22, "running", D), put(D, 3, (2, 2, 1)))
        self.holds(present(0), present(1), RUNNING, *other)
        self.breaks("present", present(0), present(1), present(2), RUNNING, *other)
        self.holds(RUNNING, *other)
        # Those of another realm do not count.
        memory = realm()
        do(memory, ("create", FREE, OTHER_FREE))
        self.breaks("present", status(22, "running", FREE), put(FREE, 3, (1, 0, 0)), present(0), start=memory.copy())
        self.holds(status(22, "running", FREE), put(FREE, 3, (1, 0, 0)), present(0, FREE), start=memory.copy())

    def test_whoever_is_nowhere_has_no_rows(self):
        for p in range(3):
            self.breaks("present", walked(p, PAGE, ("data", DATA)))
            self.breaks("present", walked(p, HIGH_PAGE, ("shared", SHARED), HIGH_LEAF))
            self.breaks("present", lambda memory: memory.access(("core", p), ("walk", ROOT, 0)))
            self.holds(walked(p, PAGE, ("data", DATA)), present(p, None))
            self.holds(walked(p, PAGE, ("data", DATA)), lambda memory: memory.access(("host", p), ("drop",)))

    def test_a_realm_that_is_held(self):
        self.holds(present(0), RUNNING, hold(D))
        self.breaks("present", present(0), hold(D))


class RowsTest(AuditCase):
    def enters(self, *changes):
        return (RUNNING, present(1)) + changes

    def test_right_rows(self):
        for p in range(3):
            self.holds(RUNNING, present(p), walked(p, PAGE, ("data", DATA)), walked(p, HIGH_PAGE, ("shared", SHARED), HIGH_LEAF))
        # A row outlives its entry in the shared half, and is for any granule.
        self.holds(*self.enters(walked(1, 15, ("shared", DATA)), put(HIGH_LEAF, 2, None)))

    def test_rows_in_the_wrong_half(self):
        self.breaks("rows", *self.enters(walked(1, 8, ("data", DATA), HIGH_LEAF)))
        self.breaks("rows", *self.enters(walked(1, PAGE, ("shared", SHARED))))
        self.breaks("rows", *self.enters(walked(1, PAGE, ("shared", DATA))))

    def test_the_entry(self):
        for entry in (None, "destroyed", ("out", 1), ("leaving", 22, None)):
            # The counts are right, too: the realm gives up the granule, or has another one there.
            changes = [walked(1, PAGE, ("data", DATA)), put(LEAF, 1, entry), status(DATA, "free"), put(D, 3, (1, 2, 0))]
            if entry == ("leaving", 22, None):
                changes += [status(22, "data", D), put(D, 3, (1, 2, 1))]
            self.breaks("rows", *self.enters(*changes))
        # A page that leaves another granule does not leave this one.
        other = (status(22, "data", D), put(D, 3, (1, 2, 2)), put(LEAF, 2, ("leaving", 22, None)))
        self.breaks("rows", *self.enters(*other, walked(1, 2, ("data", DATA))))
        self.holds(*self.enters(*other, walked(1, 2, ("data", 22))))
        self.breaks("rows", *self.enters(walked(1, 0, ("data", DATA))))
        self.breaks("rows", *self.enters(walked(1, 7, ("data", DATA))))

    def test_an_entry_that_is_leaving(self):
        row = walked(1, PAGE, ("data", DATA))

        def tickets(many, dropped):
            def change(memory):
                for number in range(many + 1):
                    if number == dropped:
                        memory.access(("host", 1), ("drop",))
                    memory.access(MONITOR, ("ticket",))
            return change
        for dropped, n, is_right in (
            (0, 1, True), (2, None, True), (2, 3, True), (2, 9, True), (2, 2, False), (2, 1, False), (0, None, True),
            (3, 3, False),
        ):
            found = self.told(*self.enters(tickets(4, dropped), row, put(LEAF, 1, ("leaving", DATA, n))))
            self.assertEqual(found, "" if is_right else "rows", (dropped, n))
        # The last drop of another processor is no matter.
        drop = lambda memory: memory.access(("host", 0), ("drop",))
        self.holds(*self.enters(tickets(4, 0), drop, row, put(LEAF, 1, ("leaving", DATA, 2))))

    def test_the_granule(self):
        # While the realm is held, its tables need not be right: here the entry names what is not its own yet.
        changes = self.enters(hold(D, 0), put(LEAF, 0, ("data", FREE)), walked(1, 0, ("data", FREE)))
        self.breaks("rows", *changes)
        self.holds(*changes, hold(FREE, 0))
        self.breaks("rows", *changes, hold(FREE, 0), release(FREE, 0))
        self.holds(*changes, status(FREE, "data", D))
        self.breaks("rows", *changes, status(FREE, "cpu", D))
        memory = realm()
        do(memory, ("create", FREE, OTHER_FREE))
        changes = self.enters(hold(D, 0), hold(FREE, 0), put(LEAF, 0, ("data", 22)), walked(1, 0, ("data", 22)))
        self.breaks("rows", *changes, status(22, "data", FREE), start=memory)

    def test_a_realm_without_tables(self):
        # Only a realm that somebody holds can be so.
        for root in (None, 24, "x", FREE):
            self.breaks("rows", *self.enters(walked(1, PAGE, ("data", DATA)), hold(D, 0), put(D, 1, root)))

    def test_two_processors(self):
        more = (status(22, "running", D), put(D, 3, (2, 2, 1)), present(0), present(1), RUNNING)
        self.holds(*more, walked(0, PAGE, ("data", DATA)), walked(1, PAGE, ("data", DATA)))
        self.breaks("rows", *more, walked(0, PAGE, ("data", DATA)), walked(1, 2, ("data", DATA)))


class OrderTest(AuditCase):
    def test_where_two_are_broken(self):
        broken = (
            ("status", status(22, "free", D)), ("words", put(D, 0, "none")), ("tables", put(ROOT, 1, ("table", DATA))),
            ("counts", put(D, 3, (0, 0, 0))), ("present", present(0, FREE)),
            ("rows", all_of(
                status(22, "running", D), RUNNING, present(1), walked(1, 2, ("data", DATA)), put(D, 3, (2, 2, 1)),
            )),
        )
        # All that makes the last one break alone is asked first.
        self.breaks("rows", broken[-1][1])
        for at, (word, change) in enumerate(broken[:-1]):
            for _, other in broken[at + 1:-1]:
                self.breaks(word, change, other)
                self.breaks(word, other, change)
            self.breaks(word, broken[-1][1], change)

    def test_points_are_asked_of_all_realms_one_by_one(self):
        memory = realm()
        do(memory, ("create", FREE, OTHER_FREE))
        self.breaks("words", put(D, 3, (0, 0, 0)), put(FREE, 0, "none"), start=memory.copy())
        self.breaks("tables", put(D, 3, (0, 0, 0)), put(OTHER_FREE, 0, 0), start=memory.copy())
        self.breaks("tables", put(FREE, 3, (0, 0, 5)), put(ROOT, 0, 0), start=memory.copy())


class RunTest(unittest.TestCase):
    def test_behind_each_act_of_drawn_runs(self):
        seen = {}
        for seed in range(24):
            draw = random.Random(seed)
            world = World("here")
            for call in realm_acts(range(9), draw.choice(PROGRAMS), draw.choice(REGISTERS)):
                finish(world.act, call)
            host = Drawn(draw, moves=draw.choice((0, 0.3)), ends=draw.choice((0.02, 0.2)), odd=0.05)
            for _ in range(1200):
                act = host.act(world)
                world.act(act)
                self.assertEqual(audit(world.memory()), "", (seed, act))
                self.rows_are_apart(world.memory(), seen)
        self.assertGreater(seen["data"], 100)
        self.assertGreater(seen["shared"], 10)

    def rows_are_apart(self, memory, seen):
        """Point [46]."""
        found = []
        for p in range(3):
            for page, (kind, g) in memory.rows(p).items():
                seen[kind] = seen.get(kind, 0) + 1
                if kind == "data":
                    self.assertNotEqual(memory.status(g)[0], "host")
                    found.append((memory.presence(p), page, g))
        for d, page, g in found:
            for e, other, h in found:
                self.assertTrue(g != h or (d, page) == (e, other))
