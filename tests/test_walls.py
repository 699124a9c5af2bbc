"""Point [62]: worlds without a wall, in which this alone is left out."""

import random
import unittest

from hermitcell import walls
from hermitcell.errors import NotValid
from hermitcell.views import Watch
from hermitcell.walls import WALLS, WeakWorld
from hermitcell.words import Atom, Knowledge
from hermitcell.world import World
from tests.helpers import NO_WORDS, TrickyText, challenge, contents, wipes
from tests.hosts import PROGRAMS, REGISTERS, Drawn, finish, realm_acts

D, ROOT, LOW, DATA, CPU, FREE, MORE, LAST = range(1, 9)
SOURCE = 20
WORDS = (5, "x", (), None)
PROGRAM = (("load", 1, 0, 0), ("tell", 1, 2), ("jump", 0))
NOTHING = (0, 0, 0, 0)


def reads(g):
    return [("read", g, i) for i in range(4)]


class WallCase(unittest.TestCase):
    def begin(self, wall, state="active"):
        """A world without the wall, with a realm that has page 0 and a virtual processor."""
        self.world = WeakWorld("here", wall)
        for i, word in enumerate(WORDS):
            self.world.act(("host", 0, ("write", SOURCE, i, word)))
        for call in [("delegate", g) for g in range(1, 9)] + [
            ("create", D, ROOT), ("table_create", D, LOW, 0), ("data_create", D, DATA, SOURCE, 0),
            ("cpu_create", D, CPU, PROGRAM, NOTHING),
        ]:
            self.does(call)
        if state != "new":
            self.does(("activate", D))
        if state == "dying":
            self.does(("kill", D))
        return self.world.memory()

    def does(self, call, p=0):
        """Makes a call that does its work; returns the requests of its accesses."""
        memory = self.world.memory()
        since = len(memory.log())
        answer = finish(self.world.act, call, p)
        self.assertEqual(answer[0], "ok", (call, answer))
        return [request for _, _, request, _ in memory.log()[since:]]

    def answer(self, call, p=0):
        return finish(self.world.act, call, p)

    def steps_to(self, request, p):
        while self.world.memory().log()[-1][2] != request:
            self.world.act(("step", p))

    def both(self, wall, state, call):
        """The requests of the call with the wall and without it."""
        self.begin(None, state)
        strong = self.does(call)
        self.begin(wall, state)
        return (strong, self.does(call))

    def swapped(self, strong, g, number=0):
        """The accesses of a call in which the writes of 0 into a granule are reads."""
        at = [at for at in range(len(strong)) if strong[at:at + 4] == wipes(g)][number]
        return strong[:at] + reads(g) + strong[at + 4:]


class FirstTest(unittest.TestCase):
    def test_the_walls(self):
        self.assertEqual(WALLS, (
            "wipe", "fresh", "source", "measured", "free", "wait", "again", "rows", "destroyed", "early", "alive", "counts",
            "once", "target", "version",
        ))
        self.assertEqual(WeakWorld.__module__, walls.__name__)

    def test_wrong_walls(self):
        for wall in NO_WORDS + (
            0, "", "Wipe", "wipe ", "walls", ("wipe",), ["wipe"], {}, challenge(0), TrickyText("wipe"), WALLS,
        ):
            with self.assertRaises(NotValid):
                WeakWorld("here", wall)

    def test_wrong_monitors(self):
        for monitor in NO_WORDS + (None, 0, "", "a" * 25, ("here",)):
            for wall in (None, "wipe"):
                with self.assertRaises(NotValid):
                    WeakWorld(monitor, wall)

    def test_a_world(self):
        known = Knowledge()
        for wall in WALLS + (None,):
            world = WeakWorld("here", wall, known)
            self.assertIsInstance(world, World)
            self.assertIs(world.known(), known)
            self.assertEqual((world.monitor, world.view()), ("here", []))
            self.assertEqual(contents(world.memory()), contents(World("here").memory()))
            self.assertIsNot(WeakWorld("here", wall).known(), WeakWorld("here", wall).known())
            with self.assertRaises(NotValid):
                world.act(("step", 3))

    def test_with_none_nothing_is_left_out(self):
        for seed in range(5):
            draw = random.Random(seed)
            one, other = World("here"), WeakWorld("here", None)
            for call in realm_acts(range(9), draw.choice(PROGRAMS), draw.choice(REGISTERS)):
                self.assertEqual(finish(one.act, call), finish(other.act, call))
            host = Drawn(draw, moves=0.2, ends=0.1)
            for _ in range(800):
                act = host.act(one)
                self.assertEqual(one.act(act), other.act(act))
            self.assertEqual(contents(one.memory()), contents(other.memory()))


class AloneTest(WallCase):
    """Where a wall is left out, all calls are made as else, but for those that are told."""

    CALLS = {
        "new": (
            ("data_create", D, FREE, SOURCE, 1), ("table_create", D, FREE, 1), ("table_destroy", D, 1), ("undelegate", FREE),
            ("delegate", SOURCE), ("cpu_create", D, FREE, PROGRAM, NOTHING), ("create", FREE, MORE), ("activate", D),
            ("table_create", D, FREE, 2), ("share", D, 8, SOURCE), ("kill", D),
        ),
        "active": (
            ("data_fresh", D, FREE, 1), ("data_destroy", D, 0), ("page_out", D, 0), ("freeze", D), ("kill", D), ("enter", CPU, 0),
            ("undelegate", FREE), ("cpu_create", D, FREE, PROGRAM, NOTHING), ("data_fresh", D, DATA, 1), ("destroy", D),
        ),
        "dying": (
            ("data_destroy", D, 0), ("cpu_destroy", D, CPU), ("destroy", D), ("kill", D), ("data_destroy", D, 1),
            ("enter", CPU, 0),
        ),
        "frozen": (
            ("thaw", D), ("seal", D, 0), ("seal_cpu", D, CPU), ("give", D, "there"), ("give", D, "here"), ("enter", CPU, 0),
        ),
        "gone": (("give", D, "far"), ("thaw", D), ("ticket", D), ("seal", D, 0)),
        "out": (("page_in", D, FREE, 0, 0), ("data_fresh", D, FREE, 0)),
    }
    # Those of them that are made in another way without the wall.
    OTHERS = {
        "wipe": {
            ("new", "undelegate"), ("active", "undelegate"), ("active", "data_destroy"), ("dying", "data_destroy"),
            ("dying", "cpu_destroy"),
        },
        "fresh": {("active", "data_fresh")}, "source": set(), "measured": set(), "free": {("active", "data_fresh")},
        "wait": set(),
        "again": set(), "rows": set(), "destroyed": {("active", "data_destroy")}, "early": {("active", "cpu_create")},
        "alive": {("dying", "enter"), ("frozen", "enter")}, "counts": {("dying", "destroy")}, "once": set(),
        "target": {("gone", "give")},
        "version": set(),
    }

    def made(self, wall, state, call):
        memory = self.begin(wall, state if state in ("new", "dying") else "active")
        if state in ("frozen", "gone"):
            self.does(("freeze", D))
        if state == "gone":
            self.does(("give", D, "there"))
        if state == "out":
            self.does(("page_out", D, 0))
        since = len(memory.log())
        return (self.answer(call), memory.log()[since:])

    def test_calls(self):
        strong = {(state, call): self.made(None, state, call) for state, calls in self.CALLS.items() for call in calls}
        for wall in WALLS:
            found = {key for key, made in strong.items() if self.made(wall, *key) != made}
            self.assertEqual({(state, call[0]) for state, call in found}, self.OTHERS[wall], wall)


class EachTest(WallCase):
    def test_wipe(self):
        strong, weak = self.both("wipe", "new", ("undelegate", FREE))
        self.assertEqual(weak, self.swapped(strong, FREE))
        for state in ("active", "dying"):
            strong, weak = self.both("wipe", state, ("data_destroy", D, 0))
            self.assertEqual(weak, self.swapped(strong, DATA))
            self.assertEqual(self.world.memory().words(DATA), WORDS)
        strong, weak = self.both("wipe", "dying", ("cpu_destroy", D, CPU))
        self.assertEqual(weak, self.swapped(strong, CPU))
        for wall in (None, "wipe"):
            memory = self.begin(wall)
            for call in (
                ("table_create", D, FREE, 1), ("kill", D), ("data_destroy", D, 0), ("cpu_destroy", D, CPU),
                ("table_destroy", D, 0),
            ):
                self.does(call)
            log = self.does(("table_destroy", D, 1))
            destroyed = self.does(("destroy", D))
            if wall is None:
                kept = (log, destroyed)
            else:
                self.assertEqual(log, self.swapped(kept[0], FREE))
                self.assertEqual(destroyed, self.swapped(self.swapped(kept[1], ROOT), D))
                self.assertEqual(memory.words(D)[0], "dying")
        # What pages out is wiped all the same, and so is what is refused in the midst.
        strong, weak = self.both("wipe", "active", ("page_out", D, 0))
        self.assertEqual(weak, strong)
        strong, weak = self.both("wipe", "active", ("data_fresh", D, FREE, 1))
        self.assertEqual(weak, strong)

    def test_fresh(self):
        self.begin("fresh")
        self.does(("undelegate", FREE))
        self.world.act(("host", 0, ("write", FREE, 2, "mine")))
        self.does(("delegate", FREE))
        self.does(("data_fresh", D, FREE, 1))
        self.assertEqual(self.world.memory().words(FREE), (0, 0, "mine", 0))
        strong, weak = self.both("fresh", "active", ("data_fresh", D, FREE, 1))
        self.assertEqual(weak, self.swapped(strong, FREE))

    def test_source(self):
        for wall, answer in ((None, ("no",)), ("source", ("ok",))):
            memory = self.begin(wall, "new")
            self.assertEqual(self.answer(("data_create", D, FREE, DATA, 1)), answer)
            if wall is not None:
                self.assertEqual(memory.words(FREE), WORDS)
                self.assertEqual(memory.words(D)[2][-1], ("page", 1, WORDS))
        # The host's own reads are refused all the same.
        self.assertEqual(self.world.act(("host", 0, ("read", DATA, 0))), ("refused",))
        self.assertEqual(self.world.act(("host", 0, ("write", DATA, 0, 1))), ("refused",))
        for g in range(24):
            self.assertEqual(memory.access(("monitor", 0), ("copy", g, 1)), ("word", memory.words(g)[1]))

    def test_measured(self):
        for wall in (None, "measured"):
            memory = self.begin(wall, "new")
            self.world.act(("call", 0, ("data_create", D, FREE, SOURCE, 1)))
            self.steps_to(("write", FREE, 3, None), 0)
            self.world.act(("host", 1, ("write", SOURCE, 1, "later")))
            copy = self.world.copy()
            self.world.act(("step", 0)), copy.act(("step", 0))
            self.assertEqual(memory.log()[-1][2], ("read", D, 2))
            # What is written behind that access is no matter.
            self.world.act(("host", 1, ("write", SOURCE, 2, "too late")))
            copy = self.world.copy()
            for world in (self.world, copy):
                while world.act(("step", 0)) is None:
                    pass
                words = WORDS if wall is None else (5, "later", (), None)
                self.assertEqual(world.memory().words(D)[2][-1], ("page", 1, words))
                self.assertEqual(world.memory().words(FREE), WORDS)

    def test_measured_of_what_is_not_the_hosts_any_more(self):
        memory = self.begin("measured", "new")
        self.world.act(("call", 0, ("data_create", D, FREE, SOURCE, 1)))
        self.steps_to(("write", FREE, 3, None), 0)
        for call in (("delegate", SOURCE), ("create", SOURCE, MORE)):
            self.does(call, 1)
        while self.world.act(("step", 0)) is None:
            pass
        self.assertEqual(memory.words(D)[2][-1], ("page", 1, ("new", MORE, (), (0, 0, 0))))

    def test_free(self):
        for g in (DATA, CPU, ROOT, SOURCE + 1):
            for state, call in (("active", ("data_fresh", D, g, 1)), ("new", ("data_create", D, g, SOURCE, 1))):
                self.begin(None, state)
                self.assertEqual(self.answer(call), ("no",))
                memory = self.begin("free", state)
                self.does(call)
                self.assertEqual(memory.status(g), ("data", D, None))
        # All other calls ask for what is free.
        self.begin("free", "new")
        for call in (
            ("create", DATA, FREE), ("table_create", D, DATA, 1), ("cpu_create", D, DATA, PROGRAM, NOTHING),
            ("undelegate", DATA),
        ):
            self.assertEqual(self.answer(call), ("no",))

    def test_wait(self):
        for wall, answer in ((None, ("busy",)), ("wait", ("ok",))):
            for call in (("data_destroy", D, 0), ("table_destroy", D, 1)):
                memory = self.begin(wall)
                self.does(("table_create", D, FREE, 1))
                self.world.act(("call", 1, ("enter", CPU, 0)))
                for _ in range(12):
                    self.world.act(("step", 1))
                since = len(memory.log())
                self.assertEqual(self.answer(call), answer)
                seen = [request for _, _, request, _ in memory.log()[since:] if request[0] == "seen"]
                self.assertEqual(seen, [("seen", 0), ("seen", 1)] + ([] if wall is None else [("seen", 2)]))
            # Whoever pages out waits all the same, and so does a freeze.
            self.begin(wall)
            self.world.act(("call", 1, ("enter", CPU, 0)))
            for _ in range(12):
                self.world.act(("step", 1))
            self.assertEqual(self.answer(("page_out", D, 0)), ("busy",))
            self.assertEqual(self.answer(("freeze", D)), ("busy",))

    def test_again(self):
        for wall, result in ((None, ("again",)), ("again", ("word", ("data", DATA)))):
            memory = self.begin(wall)
            self.assertEqual(memory.access(("core", 1), ("leaf", 0, LOW, 0)), result)
            self.assertEqual(memory.rows(1), {} if wall is None else {0: ("data", DATA)})
            self.assertEqual(memory.walks(1), False)
            memory.access(("core", 1), ("walk", ROOT, 0))
            self.assertEqual(memory.access(("core", 1), ("leaf", 0, LOW, 0)), ("word", ("data", DATA)))
            self.assertEqual(memory.walks(1), False)

    def test_rows(self):
        for wall in (None, "rows"):
            memory = self.begin(wall)
            for d in (D, None):
                memory.access(("core", 1), ("walk", ROOT, 0)), memory.access(("core", 1), ("leaf", 0, LOW, 0))
                memory.access(("core", 1), ("walk", ROOT, 0))
                memory.access(("monitor", 1), ("present", d))
                self.assertEqual((memory.presence(1), memory.walks(1)), (d, False))
                self.assertEqual(memory.rows(1), {} if wall is None else {0: ("data", DATA)})
            memory.access(("host", 1), ("drop",))
            self.assertEqual(memory.rows(1), {})

    def test_destroyed(self):
        for wall, entry in ((None, "destroyed"), ("destroyed", None)):
            memory = self.begin(wall)
            self.does(("data_destroy", D, 0))
            self.assertEqual(memory.words(LOW)[0], entry)
            self.assertEqual(self.answer(("data_fresh", D, FREE, 0)), ("no",) if wall is None else ("ok",))
            memory = self.begin(wall, "dying")
            self.does(("data_destroy", D, 0))
            self.assertIsNone(memory.words(LOW)[0])

    def test_early(self):
        call = ("cpu_create", D, FREE, PROGRAM, NOTHING)
        for wall, answer in ((None, ("no",)), ("early", ("ok",))):
            memory = self.begin(wall)
            self.assertEqual(self.answer(call), answer)
            self.assertEqual(len(memory.words(D)[2]), 2 if wall is None else 3)
            self.begin(wall, "dying")
            self.assertEqual(self.answer(call), ("no",))
            self.begin(wall, "new")
            self.assertEqual(self.answer(call), ("ok",))

    def test_alive(self):
        for state in ("new", "dying"):
            memory = self.begin(None, state)
            self.assertEqual(self.answer(("enter", CPU, 0)), ("no",))
            memory = self.begin("alive", state)
            since = len(memory.log())
            self.assertEqual(self.answer(("enter", CPU, 0)), ("told", 5))
            self.assertEqual([request for _, _, request, _ in memory.log()[since:]][3:5], [("read", D, 0), ("read", D, 1)])
            # It asks for a virtual processor all the same.
            self.assertEqual(self.answer(("enter", FREE, 0)), ("no",))

    def test_counts(self):
        for wall, answer in ((None, ("no",)), ("counts", ("ok",))):
            memory = self.begin(wall, "dying")
            since = len(memory.log())
            self.assertEqual(self.answer(("destroy", D)), answer)
            self.assertEqual(memory.log()[since + 2][2], ("read", D, 3))
            self.begin(wall)
            self.assertEqual(self.answer(("destroy", D)), ("no",))

    def test_once(self):
        for wall, second in ((None, False), ("once", True)):
            memory = self.begin(wall)
            self.assertIs(memory.access(("monitor", 0), ("once", ("x", 1))), True)
            for _ in range(3):
                self.assertIs(memory.access(("monitor", 1), ("once", ("x", 1))), second)
            self.assertIs(memory.access(("monitor", 0), ("once", ("x", 2))), True)
            self.assertEqual(memory.taken(), (("x", 1), ("x", 2)))

    def test_target(self):
        for wall, answer in ((None, ("no",)), ("target", ("ok",))):
            memory = self.begin(wall)
            self.does(("freeze", D)), self.does(("give", D, "there"))
            self.assertEqual(self.answer(("give", D, "far")), answer)
            self.assertEqual(memory.words(D)[0], ("gone", 1, "there" if wall is None else "far"))
            self.assertEqual(self.answer(("give", D, "here")), ("no",))
            self.begin(wall)
            self.assertEqual(self.answer(("give", D, "there")), ("no",))

    def test_version(self):
        for wall, answer in ((None, ("no",)), ("version", ("ok",))):
            memory = self.begin(wall)
            self.does(("page_out", D, 0))
            first = self.world.known().atoms()[0]
            self.does(("page_in", D, DATA, 0, first)), self.does(("page_out", D, 0))
            for atom in (
                Atom("page", ("there", 2, 0, WORDS)), Atom("page", ("here", 2, 1, WORDS)), Atom("page", ("here", 2, 0, None)),
                Atom("seal", ("here", 2, 0, WORDS)), 5,
            ):
                self.world.known().take(atom)
                self.assertEqual(self.answer(("page_in", D, FREE, 0, atom)), ("no",))
            self.assertEqual(self.answer(("page_in", D, FREE, 0, first)), answer)
            self.assertEqual(memory.words(LOW)[0], ("out", 2) if wall is None else ("data", FREE))
            # It asks for a page that is out all the same.
            self.assertEqual(self.answer(("page_in", D, MORE, 1, first)), ("no",))


class CopyTest(WallCase):
    def test_copies_are_without_the_wall(self):
        for wall in WALLS:
            self.begin(wall)
            known = Knowledge()
            for copy in (
                self.world.copy(), self.world.copy_with(known), self.world.copy().copy(),
                Watch(WeakWorld("here", wall)).copy().world(),
            ):
                self.assertIs(type(copy), WeakWorld)
            self.assertIs(self.world.copy_with(known).known(), known)
            self.assertEqual(contents(self.world.copy().memory()), contents(self.world.memory()))
            self.assertEqual(self.world.copy().view(), self.world.view())

    def test_copies_in_the_midst_of_a_call(self):
        for wall, state, call in (
            ("wipe", "active", ("data_destroy", D, 0)), ("fresh", "active", ("data_fresh", D, FREE, 1)),
            ("counts", "dying", ("destroy", D)),
            ("alive", "new", ("enter", CPU, 0)), ("early", "active", ("cpu_create", D, FREE, PROGRAM, NOTHING)),
            ("destroyed", "active", ("data_destroy", D, 0)), ("free", "active", ("data_fresh", D, DATA, 1)),
        ):
            self.begin(wall, state)
            self.world.act(("call", 0, call))
            copies = [self.world.copy()]
            while self.world.act(("step", 0)) is None:
                copies.append(self.world.copy())
            for copy in copies:
                while copy.act(("step", 0)) is None:
                    pass
                self.assertEqual(contents(copy.memory()), contents(self.world.memory()), wall)
