"""Points [51] to [56]."""

import random
import unittest

from hermitcell import views
from hermitcell.errors import NotValid
from hermitcell.plain import start_of
from hermitcell.views import Watch, integrity_fault
from hermitcell.walls import WeakWorld
from hermitcell.words import Atom, Knowledge
from hermitcell.world import Net, World
from tests.helpers import NO_WORDS, challenge, contents, nested
from tests.hosts import PROGRAMS, REGISTERS, Drawn, finish, realm_acts

D, ROOT, LOW, HIGH, DATA, CPU, OTHER, FREE = range(1, 9)
SHARED, SOURCE = 20, 21
WORDS = (5, "x", (), None)
END = (("end",),)
NOTHING = (0, 0, 0, 0)


class WatchCase(unittest.TestCase):
    def setUp(self):
        self.begin(World("here"))

    def begin(self, world):
        self.watch = Watch(world)
        self.world = world

    def act(self, *acts):
        for act in acts:
            result = self.watch.act(act)
        return result

    def make(self, call, p=0, watch=None):
        return finish((watch or self.watch).act, call, p)

    def does(self, *calls):
        for call in calls:
            answer = self.make(call)
            self.assertEqual(answer[0], "ok", (call, answer))
        return answer

    def steps(self, p, many):
        for _ in range(many):
            self.assertIsNone(self.watch.act(("step", p)))

    def build(self, program, registers=NOTHING, page=True, active=True):
        """A realm with tables for the pages 0 to 3 and 8 to 11, page 0, a shared page 8 and a virtual processor."""
        for i, word in enumerate(WORDS):
            self.watch.act(("host", 0, ("write", SOURCE, i, word)))
        self.does(*[("delegate", g) for g in range(1, 9)])
        self.does(("create", D, ROOT), ("table_create", D, LOW, 0), ("table_create", D, HIGH, 2), ("share", D, 8, SHARED))
        if page:
            self.does(("data_create", D, DATA, SOURCE, 0))
        self.does(("cpu_create", D, CPU, program, registers))
        if active:
            self.does(("activate", D))

    def number(self):
        """The number of the next act."""
        return len(self.world.view())


class FirstTest(WatchCase):
    def test_all_is_defined_in_its_file(self):
        for each in (Watch, integrity_fault):
            self.assertEqual(each.__module__, views.__name__)

    def test_at_first(self):
        self.assertIs(self.watch.world(), self.world)
        self.assertEqual(self.watch.many(), 0)
        for d in range(24):
            self.assertIsNone(self.watch.realm(d))
        for d in NO_WORDS + (24, -1, None, "1"):
            self.assertIsNone(self.watch.realm(d))

    def test_a_world_in_which_an_act_was_done(self):
        for act in (("drop", 0), ("step", 0), ("host", 0, ("read", 1, 0))):
            for world in (World("here"), WeakWorld("here", "rows"), Net(("here", "there")).world("here")):
                world.act(act)
                with self.assertRaises(NotValid):
                    Watch(world)
        # What a host knows, and what is done in another world, is no matter.
        known = Knowledge()
        known.take(challenge(1))
        self.assertEqual(Watch(World("here", known)).many(), 0)
        net = Net(("here", "there"))
        net.act("there", ("drop", 0))
        self.assertEqual(Watch(net.world("here")).many(), 0)

    def test_acts_are_done_as_in_the_world(self):
        other = World("here")
        for act in (
            ("host", 0, ("write", 3, 0, 7)), ("step", 0), ("call", 1, ("delegate", 5)), ("step", 1), ("drop", 1), ("step", 1),
            ("interrupt", 2), ("call", 0, 7),
        ):
            self.assertEqual(self.watch.act(act), other.act(act))
        self.assertEqual(self.world.view(), other.view())
        self.assertEqual(contents(self.world.memory()), contents(other.memory()))

    def test_values_that_are_no_acts(self):
        for value in NO_WORDS + (None, 0, (), ("step",), ("step", 3), ("halt", 0), ["step", 0], ("host", 0), ("drop", 0, 0)):
            with self.assertRaises(NotValid):
                self.watch.act(value)
        self.assertEqual(self.world.view(), [])

    def test_numbers_that_are_none(self):
        self.build(END)
        for n in NO_WORDS + (1, -1, None, "0", (0,), challenge(0)):
            for method in ("descriptor", "cores", "tells", "makes", "measure", "start"):
                with self.assertRaises(NotValid):
                    getattr(self.watch, method)(n)
            with self.assertRaises(NotValid):
                integrity_fault(self.watch, n)
        with self.assertRaises(NotValid):
            Watch(World("here")).tells(0)


class RealmsTest(WatchCase):
    """Point [53]."""

    def test_realms_that_come_up(self):
        self.does(*[("delegate", g) for g in range(1, 9)])
        self.act(("call", 0, ("create", D, ROOT)))
        while self.act(("step", 0)) is None:
            self.assertEqual((self.watch.many(), self.watch.realm(D)), (0, None))
        self.assertEqual((self.watch.many(), self.watch.realm(D), self.watch.descriptor(0)), (1, 0, D))
        # A call that is refused, or busy, brings nothing up.
        self.assertEqual(self.make(("create", D, LOW)), ("no",))
        self.act(("call", 1, ("delegate", 9)), ("step", 1))
        self.assertEqual(self.make(("create", 9, LOW)), ("busy",))
        self.assertEqual(self.watch.many(), 1)
        self.does(("create", LOW, HIGH))
        self.assertEqual((self.watch.many(), self.watch.realm(LOW), self.watch.descriptor(1)), (2, 1, LOW))

    def test_realms_that_are_over_and_others_in_their_granules(self):
        self.build(END)
        self.make(("enter", CPU, 1))
        made, told, start = self.watch.makes(0), self.watch.tells(0), self.watch.start(0)
        self.does(
            ("kill", D), ("data_destroy", D, 0), ("cpu_destroy", D, CPU), ("table_destroy", D, 0), ("table_destroy", D, 2),
        )
        self.act(("call", 0, ("destroy", D)))
        while self.act(("step", 0)) is None:
            self.assertEqual(self.watch.realm(D), 0)
        self.assertIsNone(self.watch.realm(D))
        self.assertEqual(self.watch.many(), 1)
        self.does(("create", D, LOW), ("cpu_create", D, OTHER, END, NOTHING), ("activate", D))
        self.assertEqual((self.watch.many(), self.watch.realm(D), self.watch.descriptor(1)), (2, 1, D))
        self.make(("enter", OTHER, 2))
        # What the first one made and told stays, and so do its virtual processors.
        self.assertEqual((self.watch.makes(0), self.watch.tells(0), self.watch.start(0)), (made, told, start))
        self.assertEqual((self.watch.cores(0), self.watch.cores(1)), ([CPU], [OTHER]))
        self.assertEqual(self.watch.makes(1), [("enter", 0, 2), ("make", 0, None, ("ended",))])
        self.assertEqual(integrity_fault(self.watch, 1), None)

    def test_virtual_processors_in_the_order_of_their_calls(self):
        self.build(END, active=False)
        self.act(("call", 1, ("cpu_create", D, FREE, END, NOTHING)))
        self.steps(1, 2)
        self.assertEqual(self.watch.cores(0), [CPU])
        while self.act(("step", 1)) is None:
            self.assertEqual(self.watch.cores(0), [CPU])
        self.assertEqual(self.watch.cores(0), [CPU, FREE])
        self.does(("cpu_create", D, OTHER, END, NOTHING))
        self.assertEqual(self.make(("cpu_create", D, OTHER, END, NOTHING)), ("no",))
        self.assertEqual(self.watch.cores(0), [CPU, FREE, OTHER])
        self.does(("activate", D))
        for c in (OTHER, CPU, FREE):
            self.make(("enter", c, c))
        self.assertEqual([note[:2] for note in self.watch.makes(0)], [(name, k) for k in (2, 0, 1) for name in ("enter", "make")])
        self.assertIsNone(integrity_fault(self.watch, 0))


class StayTest(WatchCase):
    """Points [54] and [55]: what a stay of each kind tells and makes."""

    def stays(self, made, tells, word="w", p=1):
        """Enters; asks for what was made, and what was told (number of the step of the call, what)."""
        before, first = self.watch.makes(0), self.number() + 1
        self.make(("enter", CPU, word), p)
        self.assertEqual(self.watch.makes(0)[len(before):], [("enter", 0, word)] + made)
        self.assertEqual([note for note in self.watch.tells(0) if note[0] >= first], [(
            first + step, what,
        ) for step, what in tells])

    def test_told(self):
        self.build((("set", 0, 7), ("tell", 0, 1), ("tell", 1, 2), ("end",)))
        self.stays([("make", 0, None, None), ("make", 0, None, ("told", 7))], [(10, ("left", CPU, ("told", 7)))])
        self.stays([("make", 0, None, ("told", "y"))], [(9, ("left", CPU, ("told", "y")))], "y")
        self.stays([("make", 0, None, ("ended",))], [(9, ("left", CPU, ("ended",)))])
        self.stays([("make", 0, None, ("ended",))], [(9, ("left", CPU, ("ended",)))])
        self.assertIsNone(integrity_fault(self.watch, 0))

    def test_stuck(self):
        self.build((("load", 0, 1, 1), ("end",)), (0, "no page", 0, 0))
        for _ in range(2):
            self.stays([("make", 0, None, ("stuck",))], [(9, ("left", CPU, ("stuck",)))])
        self.assertIsNone(integrity_fault(self.watch, 0))

    def test_loads(self):
        self.build((("load", 1, 0, 0), ("load", 2, 0, 3), ("tell", 1, 1), ("jump", 0)), (0, 0, 0, 1))
        self.stays(
            [("make", 0, ("word", 5), None), ("make", 0, ("word", "x"), None), ("make", 0, None, ("told", 5))],
            [(14, ("left", CPU, ("told", 5)))],
        )
        self.assertIsNone(integrity_fault(self.watch, 0))

    def test_stores(self):
        self.build((("store", 0, 0, 1), ("load", 2, 0, 0), ("tell", 2, 1), ("jump", 0)), (0, 9, 0, 0))
        self.stays(
            [("make", 0, ("done",), None), ("make", 0, ("word", 9), None), ("make", 0, None, ("told", 9))],
            [(14, ("left", CPU, ("told", 9)))],
        )
        self.assertIsNone(integrity_fault(self.watch, 0))

    def test_faults(self):
        # Without a table the touch and the walk are made, without an entry the leaf, too.
        for page, step in ((4, 10), (1, 11), (2, 11), (7, 10), (11, 11), (15, 10)):
            self.setUp()
            self.build((("load", 1, 0, 3), ("end",)), (page, 0, 0, 0))
            for _ in range(2):
                self.stays([("make", 0, ("fault",), ("fault", page))], [(step, ("left", CPU, ("fault", page)))])
            self.assertIsNone(integrity_fault(self.watch, 0))

    def test_a_page_that_comes_up(self):
        self.build((("load", 1, 0, 2), ("tell", 1, 1), ("jump", 0)), (1, 0, 0, 0))
        self.stays([("make", 0, ("fault",), ("fault", 1))], [(11, ("left", CPU, ("fault", 1)))])
        self.does(("data_fresh", D, OTHER, 1))
        self.stays([("make", 0, ("word", 0), None), ("make", 0, None, ("told", 0))], [(13, ("left", CPU, ("told", 0)))])
        self.does(("data_destroy", D, 1))
        self.stays([("make", 0, None, None), ("make", 0, ("fault",), ("fault", 1))], [(12, ("left", CPU, ("fault", 1)))])
        self.assertIsNone(integrity_fault(self.watch, 0))

    def test_shared_pages(self):
        self.build((("store", 0, 2, 1), ("load", 3, 0, 2), ("tell", 3, 3), ("jump", 0)), (8, "mine", 2, 0))
        self.stays(
            [("make", 0, ("done",), None), ("make", 0, ("word", "mine"), None), ("make", 0, None, ("told", "mine"))],
            [(12, ("store", SHARED, 2, "mine")), (14, ("left", CPU, ("told", "mine")))],
        )
        self.does(("unshare", D, 8), ("share", D, 8, SOURCE))
        self.stays(
            [
                ("make", 0, None, None), ("make", 0, ("done",), None), ("make", 0, ("word", "mine"), None),
                ("make", 0, None, ("told", "mine")),
            ],
            [(13, ("store", SOURCE, 2, "mine")), (15, ("left", CPU, ("told", "mine")))],
        )
        # A granule that is the host's no more gives a fault, and is told as one.
        self.does(("delegate", SOURCE))
        self.stays([("make", 0, None, None), ("make", 0, ("fault",), ("fault", 8))], [(13, ("left", CPU, ("fault", 8)))])
        self.assertIsNone(integrity_fault(self.watch, 0))

    def test_what_the_host_puts_into_a_shared_page(self):
        self.build((("load", 3, 0, 2), ("tell", 3, 3), ("jump", 0)), (8, 0, 2, 0))
        self.act(("host", 0, ("write", SHARED, 2, (1, "w"))))
        self.stays(
            [("make", 0, ("word", (1, "w")), None), ("make", 0, None, ("told", (1, "w")))],
            [(13, ("left", CPU, ("told", (1, "w"))))],
        )
        self.assertIsNone(integrity_fault(self.watch, 0))

    def test_tokens(self):
        self.build((("token", 0, 1), ("tell", 0, 1), ("jump", 0)))
        made = Atom("token", ("here", self.world.memory().words(D)[2], 0))
        self.stays([("make", 0, None, None), ("make", 0, None, ("told", made))], [(10, ("left", CPU, ("told", made)))])
        self.assertIsNone(integrity_fault(self.watch, 0))

    def test_a_touch_that_is_dropped_again_and_again(self):
        self.build((("load", 1, 0, 0), ("tell", 1, 1), ("jump", 0)))
        self.act(("call", 1, ("enter", CPU, "w")))
        self.steps(1, 9)
        for _ in range(3):
            # The touch finds no row; the walk is lost to the drop, and the leaf makes it again.
            self.steps(1, 2)
            self.act(("drop", 1))
            self.steps(1, 1)
        self.assertEqual(self.watch.makes(0), [("enter", 0, "w")])
        while self.act(("step", 1)) is None:
            pass
        self.assertEqual(self.watch.makes(0), [("enter", 0, "w"), ("make", 0, ("word", 5), None), ("make", 0, None, ("told", 5))])
        self.assertIsNone(integrity_fault(self.watch, 0))

    def test_two_at_once(self):
        self.build((("store", 0, 0, 1), ("load", 2, 0, 0), ("end",)), (0, 1, 0, 0), active=False)
        self.does(("cpu_create", D, OTHER, (("store", 0, 0, 1), ("load", 2, 0, 0), ("end",)), (0, 2, 0, 0)), ("activate", D))
        self.act(("call", 1, ("enter", CPU, "a")), ("call", 2, ("enter", OTHER, "b")))
        self.steps(1, 9), self.steps(2, 9), self.steps(1, 4), self.steps(2, 5), self.steps(1, 1)
        self.assertEqual(self.watch.makes(0), [
            ("enter", 0, "a"), ("enter", 1, "b"), ("make", 0, ("done",), None), ("make", 1, ("done",), None),
            ("make", 1, ("word", 2), None), ("make", 0, ("word", 2), None),
        ])
        self.assertEqual(self.watch.tells(0), [])
        self.assertIsNone(integrity_fault(self.watch, 0))

    def test_a_virtual_processor_that_is_refused(self):
        self.build(END)
        self.assertEqual(self.make(("enter", FREE, "w")), ("no",))
        self.does(("kill", D))
        self.assertEqual(self.make(("enter", CPU, "w")), ("no",))
        self.assertEqual((self.watch.makes(0), self.watch.tells(0), self.watch.start(0)), ([], [], None))
        self.assertIsNone(integrity_fault(self.watch, 0))


class InterruptTest(WatchCase):
    PROGRAM = (("set", 0, 3), ("tell", 0, 1), ("load", 2, 3, 3), ("tell", 2, 1), ("end",))

    def entered(self, steps):
        """The answer of an enter that is interrupted behind so many steps of the call."""
        self.act(("call", 1, ("enter", CPU, "w")))
        self.steps(1, steps)
        self.act(("interrupt", 1))
        result = None
        while result is None:
            result = self.act(("step", 1))
        return result[1]

    def test_ahead_of_the_run(self):
        for steps in range(9):
            self.setUp()
            self.build(self.PROGRAM)
            self.assertEqual(self.entered(steps), ("interrupted",))
            self.assertEqual(self.watch.makes(0), [("enter", 0, "w")])
            self.assertEqual(self.watch.tells(0), [])
            self.assertEqual(self.watch.start(0), start_of(self.world.memory().words(D)[2]))

    def test_the_word_is_taken_though_no_step_is_made(self):
        self.build(self.PROGRAM)
        self.assertEqual(self.make(("enter", CPU, "w")), ("told", 3))
        self.assertEqual(self.entered(4), ("interrupted",))
        self.assertEqual(self.watch.makes(0)[-1], ("enter", 0, "w"))
        self.assertEqual(self.make(("enter", CPU, "late")), ("told", 5))
        self.assertIsNone(integrity_fault(self.watch, 0))
        self.assertEqual(self.world.memory().words(CPU)[1][1], "w")

    def test_in_the_run(self):
        for steps, made in ((9, []), (10, [("make", 0, None, None)])):
            self.setUp()
            self.build(self.PROGRAM)
            self.assertEqual(self.entered(steps), ("interrupted",))
            self.assertEqual(self.watch.makes(0), [("enter", 0, "w")] + made)
            self.assertEqual(self.watch.tells(0), [])
            self.assertIsNone(integrity_fault(self.watch, 0))

    def test_in_a_touch(self):
        for steps in (9, 10, 11, 12):
            self.setUp()
            self.build((("load", 2, 3, 3), ("end",)))
            self.assertEqual(self.entered(steps), ("interrupted",))
            self.assertEqual(self.watch.makes(0), [("enter", 0, "w")])
            self.make(("enter", CPU, "v"))
            self.assertEqual(
                self.watch.makes(0)[1:], [("enter", 0, "v"), ("make", 0, ("word", 5), None), ("make", 0, None, ("ended",))],
            )
            self.assertIsNone(integrity_fault(self.watch, 0))

    def test_behind_the_run(self):
        for steps in range(11, 16):
            self.setUp()
            self.build(self.PROGRAM)
            number = self.number() + 11
            self.assertEqual(self.entered(min(steps, 15)), ("told", 3))
            self.assertEqual(self.watch.makes(0)[-1], ("make", 0, None, ("told", 3)))
            self.assertEqual(self.watch.tells(0), [(number, ("left", CPU, ("told", 3)))])


class NumbersTest(WatchCase):
    """Point [52]: tells are numbered by the acts."""

    def test_acts_that_cannot_be_are_numbered(self):
        self.build(END)
        for _ in range(5):
            self.act(("step", 2))
        first = self.number()
        self.make(("enter", CPU, 0))
        (number, what), = self.watch.tells(0)
        self.assertEqual((number, what), (first + 10, ("left", CPU, ("ended",))))
        self.assertEqual(self.world.view()[number], (("step", 0), None))
        self.assertNotEqual(len(self.world.memory().log()), self.number())

    def test_what_is_new(self):
        self.build((("set", 0, 1), ("tell", 0, 1), ("end",)))
        self.assertEqual((self.watch.acts(), self.watch.news()), (self.number(), []))
        self.act(("call", 0, ("enter", CPU, "w")))
        self.steps(0, 8)
        self.assertEqual(self.watch.news(), [])
        for expected in (
            [("made", ("enter", 0, "w"))], [("made", ("make", 0, None, None))],
            [("made", ("make", 0, None, ("told", 1))), ("told", (self.number() + 2, ("left", CPU, ("told", 1))))], [],
        ):
            self.steps(0, 1)
            self.assertEqual(self.watch.news(), [(0, *each) for each in expected])
            self.assertEqual(self.watch.copy().news(), self.watch.news())
            self.watch.news().clear()
        self.assertEqual(self.watch.acts(), self.number())

    def test_what_raises_is_no_act(self):
        self.build(END)
        first = self.number()
        with self.assertRaises(NotValid):
            self.watch.act(("step", 9))
        self.make(("enter", CPU, 0))
        self.assertEqual(self.watch.tells(0)[0][0], first + 10)


class BeginningTest(WatchCase):
    """The measure and the start."""

    def test_none_as_long_as_nobody_runs(self):
        self.build(END)
        measure = self.world.memory().words(D)[2]
        self.act(("call", 0, ("enter", CPU, 0)))
        for _ in range(8):
            self.act(("step", 0))
            self.assertEqual((self.watch.measure(0), self.watch.start(0)), (None, None))
        self.act(("step", 0))
        self.assertEqual((self.watch.measure(0), self.watch.start(0)), (measure, start_of(measure)))
        self.assertEqual(start_of(measure), ((WORDS,) + (None,) * 7, ((END, 0, NOTHING, None),)))

    def test_they_are_noted_once(self):
        self.build((("store", 0, 0, 1), ("tell", 1, 1), ("jump", 0)), (0, 7, 0, 0))
        self.make(("enter", CPU, 0))
        before = (self.watch.measure(0), self.watch.start(0))
        self.make(("enter", CPU, 0))
        self.does(("data_fresh", D, OTHER, 1))
        self.make(("enter", CPU, 0))
        self.assertEqual((self.watch.measure(0), self.watch.start(0)), before)

    def test_lists_are_the_callers(self):
        self.build(END)
        self.make(("enter", CPU, 0))
        before = (self.watch.tells(0), self.watch.makes(0), self.watch.cores(0))
        for each in before:
            self.assertTrue(each)
        for told in (self.watch.tells(0), self.watch.makes(0), self.watch.cores(0)):
            told.clear()
        self.assertEqual((self.watch.tells(0), self.watch.makes(0), self.watch.cores(0)), before)
        kept = self.watch.makes(0)
        self.make(("enter", CPU, 0))
        self.assertEqual(kept, before[1])


class ComingTest(WatchCase):
    """A realm that comes from another monitor."""

    PROGRAM = (("load", 1, 0, 0), ("add", 1, 1, 2), ("store", 0, 0, 1), ("tell", 1, 3), ("jump", 0))

    def setUp(self):
        self.net = Net(("here", "there"))
        self.begin(self.net.world("here"))
        self.other = Watch(self.net.world("there"))
        self.build(self.PROGRAM, (0, 0, 1, 0), active=False)
        self.does(
            ("data_create", D, FREE, SOURCE, 2), ("cpu_create", D, OTHER, END, (1, 2, 3, 4)), ("activate", D),
        )
        self.does(("data_destroy", D, 2))
        self.assertEqual(self.make(("enter", CPU, 0)), ("told", 6))
        self.does(("freeze", D))
        self.seals = [self.does(("seal", D, 0))[1], self.does(("seal_cpu", D, CPU))[1], self.does(("seal_cpu", D, OTHER))[1]]
        self.does(("give", D, "there"))
        self.ticket = self.does(("ticket", D))[1]
        for g in range(1, 12):
            self.make(("delegate", g), 0, self.other)

    def comes(self, *last):
        """The realm comes, its second virtual processor first."""
        for call in (
            ("come", 2, 1, self.ticket), ("table_create", 2, 3, 0), ("place_cpu", 2, 7, self.seals[2]),
            ("place", 2, 6, 0, self.seals[0]), ("strike", 2, 2), ("place_cpu", 2, 8, self.seals[1]), *last,
        ):
            self.assertEqual(self.make(call, 0, self.other), ("ok",), call)

    START = (
        ((6,) + WORDS[1:], None, "gone") + (None,) * 5,
        ((END, 0, (1, 2, 3, 4), None), (PROGRAM, 4, (0, 6, 1, 0), 3)),
    )

    def test_it_comes_up(self):
        self.comes()
        self.assertEqual((self.other.many(), self.other.realm(2), self.other.descriptor(0)), (1, 0, 2))
        self.assertEqual(self.other.cores(0), [7, 8])
        self.assertEqual((self.other.measure(0), self.other.start(0)), (None, None))
        self.assertEqual(self.other.makes(0), [])

    def test_its_start(self):
        self.comes()
        self.other.act(("call", 1, ("begin", 2)))
        while self.other.act(("step", 1)) is None:
            self.assertEqual((self.other.measure(0), self.other.start(0)), (None, None))
        measure = self.world.memory().words(D)[2]
        self.assertEqual((self.other.measure(0), self.other.start(0)), (measure, self.START))
        # What becomes of its pages later is no matter.
        self.make(("data_fresh", 2, 9, 1), 0, self.other)
        self.assertEqual(self.make(("enter", 8, 0), 0, self.other), ("told", 7))
        self.assertEqual(self.make(("enter", 7, 0), 0, self.other), ("ended",))
        self.assertEqual(self.other.start(0), self.START)
        self.assertEqual([note[:2] for note in self.other.makes(0)[:2]], [("enter", 1), ("make", 1)])
        self.assertIsNone(integrity_fault(self.other, 0))
        self.assertIsNone(integrity_fault(self.watch, 0))

    def test_one_that_runs_ahead_of_the_last_step_of_begin(self):
        self.comes()
        self.other.act(("call", 1, ("begin", 2)))
        while self.net.world("there").memory().words(2)[0] != "active":
            self.other.act(("step", 1))
        self.assertIsNone(self.other.start(0))
        self.assertEqual(self.make(("enter", 8, 0), 0, self.other), ("told", 7))
        self.assertEqual(self.other.act(("step", 1)), ("answer", ("ok",)))
        self.assertEqual(self.other.start(0), self.START)
        self.assertIsNone(integrity_fault(self.other, 0))

    def test_a_measure_or_a_start_that_is_none(self):
        """What no monitor makes, but a word that somebody changed does."""
        for g, i, word, is_faulty in (
            (2, 2, ("no measure",), True), (7, 1, (nested(11), 0, 0, 0), True), (7, 1, (nested(10), 0, 0, 0), False),
        ):
            self.setUp()
            self.comes()
            self.net.world("there").memory().change(g, i, word)
            self.assertEqual(self.make(("begin", 2), 0, self.other), ("ok",))
            self.assertIsNone(integrity_fault(self.other, 0))
            self.assertIsNotNone(self.other.start(0))
            self.assertEqual(self.make(("enter", 8, 0), 0, self.other), ("told", 7))
            self.assertEqual(integrity_fault(self.other, 0), 0 if is_faulty else None)

    def test_copies_note_no_second_start(self):
        self.comes(("begin", 2))
        copy = self.other.copy()
        self.make(("data_fresh", 2, 9, 1), 0, copy)
        self.assertEqual(self.make(("enter", 8, 0), 0, copy), ("told", 7))
        self.assertEqual(copy.start(0), self.START)

    def test_a_page_that_is_gone(self):
        self.comes(("begin", 2))
        plain_start = self.other.start(0)
        self.assertEqual(plain_start[0][2], "gone")
        # It gives a fault, for ever.
        self.assertEqual(self.make(("data_fresh", 2, 9, 2), 0, self.other), ("no",))

    def test_it_goes_on_in_its_own_granule(self):
        self.comes(("begin", 2))
        for call in (("freeze", 2), ("give", 2, "here"), ("kill", 2)):
            self.make(call, 0, self.other)
        for call in (
            ("data_destroy", 2, 0), ("cpu_destroy", 2, 7), ("cpu_destroy", 2, 8), ("table_destroy", 2, 0), ("destroy", 2),
            ("create", 2, 1),
        ):
            self.assertEqual(self.make(call, 0, self.other), ("ok",), call)
        self.assertEqual((self.other.many(), self.other.realm(2)), (2, 1))
        self.assertEqual((self.other.start(0), self.other.start(1)), (self.START, None))


class CopyTest(WatchCase):
    def told(self, watch):
        return (
            watch.world().view(), contents(watch.world().memory()), watch.many(), [watch.realm(d) for d in range(24)],
            [
                (watch.descriptor(n), watch.cores(n), watch.tells(n), watch.makes(n), watch.measure(n), watch.start(n))
                for n in range(watch.many())
            ],
        )

    def start(self):
        self.build((("tell", 0, 1), ("load", 2, 3, 3), ("jump", 0)), active=False)
        self.act(("call", 1, ("cpu_create", D, OTHER, END, NOTHING)))
        self.steps(1, 3)
        copies = [self.watch.copy()]
        while self.act(("step", 1)) is None:
            copies.append(self.watch.copy())
        self.does(("activate", D))
        self.act(("call", 1, ("enter", CPU, "w")))
        for _ in range(20):
            copies.append(self.watch.copy())
            if self.act(("step", 1)) is not None:
                break
        return copies

    def test_it_has_the_same_notes(self):
        self.start()
        copy = self.watch.copy()
        self.assertIs(type(copy), Watch)
        self.assertEqual(self.told(copy), self.told(self.watch))
        self.assertIsNot(copy.world(), self.watch.world())

    def test_copies_go_their_own_way(self):
        self.start()
        before = self.told(self.watch)
        copy = self.watch.copy()
        self.make(("enter", CPU, "v"), 0, copy)
        self.make(("create", FREE, 9), 0, copy)
        self.make(("delegate", 9), 0, copy), self.make(("create", FREE, 9), 0, copy)
        self.assertEqual(self.told(self.watch), before)
        self.assertEqual((copy.many(), self.watch.many()), (2, 1))
        after = self.told(copy)
        self.make(("enter", OTHER, "v"))
        self.assertEqual(self.told(copy), after)

    def test_copies_in_the_midst_of_calls_go_on_alike(self):
        copies = self.start()
        told = self.told(self.watch)
        for copy in copies:
            # The same acts as those that came behind the copy.
            for act, _ in self.world.view()[len(copy.world().view()):]:
                copy.act(act)
            self.assertEqual(self.told(copy), told)

    def test_a_copy_of_a_weak_world_is_weak(self):
        self.begin(WeakWorld("here", "fresh"))
        self.build((("load", 1, 0, 0), ("end",)), page=False)
        self.does(("undelegate", FREE))
        self.act(("host", 0, ("write", FREE, 0, 66)))
        self.does(("delegate", FREE))
        copy = self.watch.copy()
        for watch in (self.watch, copy):
            self.make(("data_fresh", D, FREE, 0), 0, watch)
            self.make(("enter", CPU, 0), 0, watch)
            self.assertEqual(watch.makes(0)[1], ("make", 0, ("word", 66), None))
            self.assertEqual(integrity_fault(watch, 0), 1)


class IntegrityTest(WatchCase):
    """Point [51]."""

    def test_a_realm_that_made_nothing(self):
        self.does(("delegate", 1), ("delegate", 2), ("create", D, ROOT))
        self.assertIsNone(integrity_fault(self.watch, 0))

    def test_over_drawn_runs(self):
        made = {}
        for seed in range(16):
            draw = random.Random(seed)
            self.begin(World("here"))
            for call in realm_acts(range(9), draw.choice(PROGRAMS), draw.choice(REGISTERS)):
                self.does(call)
            host = Drawn(draw, moves=0.1, ends=0.02, odd=0.05)
            for _ in range(1500):
                self.watch.act(host.act(self.world))
            for n in range(self.watch.many()):
                self.assertIsNone(integrity_fault(self.watch, n), (seed, n))
                for note in self.watch.makes(n):
                    key = note[0] if note[0] == "enter" else (note[2] and note[2][0], note[3] and note[3][0])
                    made[key] = made.get(key, 0) + 1
        for key in ("enter", ("word", None), ("done", None), ("fault", "fault"), (None, None), (None, "told"), (None, "stuck")):
            self.assertGreater(made.get(key, 0), 10, key)

    def test_a_virtual_processor_without_a_number(self):
        # Its call is not answered yet, but it runs: that takes a wall that is left out.
        self.begin(WeakWorld("here", "early"))
        self.build(END)
        self.make(("enter", CPU, 0))
        self.act(("call", 1, ("cpu_create", D, OTHER, END, NOTHING)))
        while self.world.memory().status(OTHER)[0] != "cpu":
            self.steps(1, 1)
        self.assertEqual(self.watch.cores(0), [CPU])
        self.make(("enter", OTHER, "w"))
        self.assertEqual(self.watch.makes(0)[2:], [("enter", None, "w"), ("make", None, None, ("ended",))])
        self.assertEqual(self.watch.tells(0)[-1][1], ("left", OTHER, ("ended",)))
        self.assertEqual(self.act(("step", 1)), ("answer", ("ok",)))
        self.assertEqual(self.watch.cores(0), [CPU, OTHER])
        self.make(("enter", OTHER, "w"))
        self.assertEqual(self.watch.makes(0)[4:], [("enter", 1, "w"), ("make", 1, None, ("ended",))])
        self.assertEqual(integrity_fault(self.watch, 0), 2)

    def test_a_measure_that_is_none(self):
        # The descriptor of a realm becomes a page of another one, with words of the host.
        self.begin(WeakWorld("here", "free"))
        self.build(END, page=False, active=False)
        for g in (9, 10):
            self.make(("delegate", g))
        self.does(("create", FREE, 9), ("cpu_create", FREE, 10, END, NOTHING))
        for i, word in enumerate(("active", 9, ("no measure",), (1, 0, 0))):
            self.act(("host", 0, ("write", SOURCE, i, word)))
        self.does(("data_create", D, FREE, SOURCE, 0))
        self.assertEqual(integrity_fault(self.watch, 1), None)
        self.assertEqual(self.make(("enter", 10, "w")), ("ended",))
        self.assertEqual((self.watch.measure(1), self.watch.start(1)), (("no measure",), None))
        self.assertEqual(self.watch.makes(1), [("enter", 0, "w"), ("make", 0, None, ("ended",))])
        self.assertEqual(integrity_fault(self.watch, 1), 0)
        self.assertIsNone(integrity_fault(self.watch, 0))

    def test_each_thing_that_cannot_be(self):
        """A word that nobody stored; a page that came back with others; a word that was not told."""
        def changed(change, made):
            self.setUp()
            self.build((("load", 1, 0, 0), ("store", 0, 0, 2), ("tell", 1, 3), ("jump", 0)), (0, 0, 4, 0))
            self.make(("enter", CPU, 0))
            change(self.world.memory())
            self.make(("enter", CPU, 0))
            self.assertEqual(integrity_fault(self.watch, 0), made)
        changed(lambda memory: None, None)
        changed(lambda memory: memory.change(DATA, 0, 99), 6)
        changed(lambda memory: memory.change(DATA, 1, 99), None)
        changed(lambda memory: memory.change(CPU, 0, 2), 5)
        changed(lambda memory: memory.change(CPU, 1, (0, 5, 77, 0)), None)
        changed(lambda memory: memory.change(CPU, 1, (1, 0, 4, 0)), 6)
        changed(lambda memory: memory.change(CPU, 3, END * 5), 5)

    def test_what_it_leaves_with(self):
        self.build((("tell", 1, 0), ("end",)), (0, "w", 0, 0))
        self.act(("call", 0, ("enter", CPU, 0)))
        self.steps(0, 9)
        self.world.call(0).core().answer(1, "another word")
        while self.act(("step", 0)) is None:
            pass
        self.assertEqual(integrity_fault(self.watch, 0), 1)
