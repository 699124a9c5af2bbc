"""Points [31] to [35], and [17] and [18] for processors that are entered again."""

import unittest

from hermitcell import entering
from hermitcell.calls import Call
from hermitcell.entering import Enter, is_enter
from hermitcell.errors import NotValid
from hermitcell.machine import Core
from hermitcell.memory import Memory
from tests.helpers import (
    CPU, D, DATA, FREE, HIGH_LEAF, HIGH_PAGE, LEAF, MEASURE, MONITOR, MOVING, NO_WORDS, PAGE, ROOT, SHARED, SOURCE, FormCase,
    TrickyText, challenge, contents, do, finish, leave, nested, ranked, realm, seal, ticket, token, write,
)

END = ("end",)
BEGIN = [
    ("swap", ("swap", CPU, "cpu", "running")), ("look", ("look", CPU)), ("present", ("present", D)),
    ("state", ("read", D, 0)), ("root", ("read", D, 1)), *[("parts", ("read", CPU, i)) for i in range(4)],
]
STAY_AWAY = [("absent", ("present", None)), ("rest", ("rest", CPU))]


def ending(place, registers, waiting=None):
    return [
        ("place", ("write", CPU, 0, place)), ("registers", ("write", CPU, 1, registers)),
        ("waiting", ("write", CPU, 2, waiting)), *STAY_AWAY,
    ]


def run(*steps):
    """The steps of a run: None, or the access of the core, or ("token",)."""
    return [("run", step) for step in steps]


def walked(page, leaf, first):
    """The steps of a touch without a row."""
    return run(first, ("walk", ROOT, page // 4), ("leaf", page, leaf, page % 4), first)


def actor_of(stage, request, processor):
    is_core = stage == "run" and request[0] in ("touch", "put", "walk", "leaf")
    return ("core" if is_core else "monitor", processor)


class EnterFormTest(FormCase):
    RIGHT = {"g": (0, 23, 11), "h": (None, 0, "x", (), nested(10), ranked(36), seal(), token(1), challenge(0))}
    WRONG = {"g": (24, -1, None, "1", (1,)), "h": (nested(11), ranked(37), (ranked(37),), ticket(measure=(ranked(36),)))}

    def is_form(self, value):
        return is_enter(value)

    def test_forms(self):
        self.asks_for_forms(((("enter", 5, "x"), "gh"),))
        self.assertIs(is_enter(("enter", 5, 5)), True)

    def test_what_is_no_enter(self):
        for value in NO_WORDS + (
            None, 0, "enter", (), ("enter",), ("enter", 5), ("", 5, 0), (None, 5, 0), ("kill", 5), ("cpu_destroy", 5, 0),
            ("page_out", 5, 0), (TrickyText("enter"), 5, 0), ([], 5, 0), challenge(0),
        ):
            self.assertIs(is_enter(value), False)

    def test_the_class(self):
        for each in (is_enter, Enter):
            self.assertEqual(each.__module__, entering.__name__)
        for name in ("step", "interrupt", "is_running", "answer", "steps", "realm", "core", "state", "copy"):
            self.assertIn(name, vars(Enter))

    def test_wrong_arguments(self):
        memory = Memory()
        for call in NO_WORDS + (None, (), ("enter", 24, 0), ["enter", 5, 0], ("enter", 5), ("enter", 5, nested(11)), ("kill", 5)):
            with self.assertRaises(NotValid):
                Enter(memory, 0, call, "m")
        for processor in (3, -1, None, "0", True):
            with self.assertRaises(NotValid):
                Enter(memory, processor, ("enter", 5, 0), "m")
        self.assertEqual(contents(memory), contents(Memory()))

    def test_at_first(self):
        memory = realm()
        before = contents(memory)
        enter = Enter(memory, 1, ("enter", CPU, "x"), "m")
        self.assertEqual(enter.state(), (CPU, "x", "swap", None, None, 0, False, 0, None, None))
        self.assertEqual((enter.answer(), enter.realm(), enter.core(), enter.steps()), (None, None, None, 0))
        self.assertIs(enter.is_running(), False)
        self.assertEqual(contents(memory), before)


class EnterCase(unittest.TestCase):
    def enters(self, memory, rows, answer, word=0, processor=0, interrupts=(), monitor="m"):
        """Enters; asks for each step, and for all that is told ahead of it; interrupts are numbers of steps."""
        enter = Enter(memory, processor, ("enter", CPU, word), monitor)
        copies = []
        for number, (stage, request) in enumerate(rows):
            if number in interrupts:
                self.assertIsNone(enter.interrupt())
            is_interrupted = any(each <= number for each in interrupts)
            if not interrupts:
                other = memory.copy()
                copies.append((other, enter.copy(other)))
            self.tells(enter, rows, number, word, is_interrupted, answer)
            since = len(memory.log())
            given = enter.step()
            expected = [] if request is None else [(actor_of(stage, request, processor), request)]
            self.assertEqual([row[1:3] for row in memory.log()[since:]], expected, rows[:number + 1])
            self.assertEqual(given, answer if number == len(rows) - 1 else None)
        self.assertEqual(enter.answer(), answer)
        self.is_over(memory, enter)
        self.copies_go_on(copies, memory, enter)
        return enter

    def tells(self, enter, rows, number, word, is_interrupted, answer):
        """Asks for all that is told ahead of a step."""
        ahead = rows[:number]
        stage = rows[number][0]
        names = [name for name, _ in ahead]
        steps = names.count("run")
        is_refused = answer == ("no",)
        left = answer if stage in ("place", "registers", "waiting", "absent", "rest") else None
        state = enter.state()
        told = list(state)
        expected = [
            CPU, word, stage, D if "look" in names else None, ROOT if "root" in names else None, names.count("parts"),
            is_interrupted, steps, left, None,
        ]
        if stage == "place" and answer == ("interrupted",):
            told[2], told[8], expected[2], expected[8] = None, None, None, None
        elif stage not in ("run", "place"):
            self.assertIs(enter.is_running(), False)
        else:
            self.assertIs(enter.is_running(), stage == "run")
        if is_refused and stage in ("absent", "rest"):
            self.assertIn(told[8], (None, ("no",)))
            told[8] = expected[8]
        self.assertEqual(told, expected)
        self.assertIs(type(state), tuple)
        self.assertIs(type(state[6]), bool)
        self.assertEqual((enter.answer(), enter.steps(), enter.realm()), (None, steps, expected[3]))
        if expected[5] < 4:
            self.assertIsNone(enter.core())
        else:
            self.assertIs(type(enter.core()), Core)

    def is_over(self, memory, enter):
        """Asks that nothing goes on behind the answer."""
        before, answer, steps = contents(memory), enter.answer(), enter.steps()
        for each in (enter, enter.copy(memory)):
            with self.assertRaises(NotValid):
                each.step()
            self.assertEqual((each.answer(), each.steps()), (answer, steps))
            self.assertIs(each.is_running(), False)
        self.assertEqual(contents(memory), before)

    def copies_go_on(self, copies, memory, enter):
        for other, copy in copies:
            self.assertEqual(finish(copy), enter.answer())
            self.assertEqual(contents(other), contents(memory))
            self.assertEqual((copy.steps(), copy.realm()), (enter.steps(), enter.realm()))

    def rests(self, memory, place, registers, waiting, program):
        self.assertEqual(memory.words(CPU), (place, registers, waiting, program))
        self.assertEqual(memory.status(CPU), ("cpu", D, None))
        for p in range(3):
            self.assertEqual((memory.presence(p), memory.rows(p), memory.walks(p)), (None, {}, False))


class BeginningTest(EnterCase):
    def refused(self, change):
        memory = realm()
        change(memory)
        before = contents(memory)[1:]
        enter = self.enters(memory, BEGIN[:1], ("no",))
        self.assertEqual(contents(memory)[1:], before)
        self.assertEqual((enter.realm(), enter.core(), enter.steps()), (None, None, 0))
        self.assertEqual(enter.state()[:2] + enter.state()[3:], (CPU, 0, None, None, 0, False, 0, None, ("no",)))

    def test_a_granule_that_is_no_virtual_processor_at_rest(self):
        for state, owner in (("host", None), ("free", None), ("desc", None), ("table", D), ("data", D), ("running", D)):
            self.refused(lambda memory, state=state, owner=owner: leave(memory, CPU, state, owner))
        for holder in range(3):
            self.refused(lambda memory, holder=holder: memory.access(("monitor", holder), ("hold", CPU)))

    def test_states_of_the_realm(self):
        for state in ("new", "dying", "", "Active", ("active",), None, 0) + MOVING:
            for processor in range(3):
                memory = realm("new" if state == "new" else "active")
                write(memory, D, state)
                before = contents(memory)[1:]
                enter = self.enters(memory, BEGIN[:4] + STAY_AWAY, ("no",), processor=processor)
                self.assertEqual(contents(memory)[1:], before)
                self.assertEqual((enter.realm(), enter.core(), enter.steps()), (D, None, 0))

    def test_a_realm_that_is_held_is_entered(self):
        memory = realm()
        memory.access(("monitor", 1), ("hold", D))
        self.assertEqual(finish(Enter(memory, 0, ("enter", CPU, 0), "m")), ("told", 5))

    def test_rows_and_walks_of_before_are_gone(self):
        memory = realm(program=(("load", 0, 1, 2), END), registers=(0, PAGE, 0, 0))
        self.assertEqual(finish(Enter(memory, 0, ("enter", CPU, 0), "m")), ("ended",))
        self.assertEqual(memory.rows(0), {})

    def test_a_second_enter_while_it_runs(self):
        memory = realm()
        rows = BEGIN + run(None, None) + ending(2, (5, "a", None, (2,)), 1)
        # It is refused from behind the swap on, until the processor rests.
        first = Enter(memory, 0, ("enter", CPU, 0), "m")
        for number in range(len(rows) - 1):
            first.step()
            before = contents(memory)[1:]
            self.assertEqual(finish(Enter(memory, 1, ("enter", CPU, 0), "m")), ("no",))
            self.assertEqual(contents(memory)[1:], before)
        first.step()
        self.assertEqual(first.answer(), ("told", 5))
        self.assertEqual(finish(Enter(memory, 1, ("enter", CPU, 0), "m")), ("ended",))

    def test_two_processors_of_a_realm_at_once(self):
        memory = realm("new")
        do(memory, ("cpu_create", D, FREE, (("tell", 1, 0), END), (0, "b", 0, 0)), ("activate", D))
        one, other = Enter(memory, 0, ("enter", CPU, 0), "m"), Enter(memory, 2, ("enter", FREE, 0), "m")
        while one.answer() is None or other.answer() is None:
            for each in (one, other):
                if each.answer() is None:
                    each.step()
        self.assertEqual((one.answer(), other.answer()), (("told", 5), ("told", "b")))


class RunTest(EnterCase):
    def runs(self, program, registers, steps, place, left_registers, answer, waiting=None, memory=None, **more):
        """A realm with this program is entered, and runs so."""
        if memory is None:
            memory = realm(program=program, registers=registers)
        self.enters(memory, BEGIN + steps + ending(place, left_registers, waiting), answer, **more)
        self.rests(memory, place, left_registers, waiting, program)
        return memory

    def test_told(self):
        for processor in range(3):
            for word in (5, None, "x", (1, challenge(0)), seal()):
                program = (("copy", 3, 1), ("tell", 1, 2), END)
                self.runs(
                    program, (0, word, 0, 0), run(None, None), 2, (0, word, 0, word), ("told", word), 2, processor=processor,
                )

    def test_a_register_that_waits_becomes_the_answer(self):
        program = (("tell", 1, 2), ("copy", 0, 2), ("tell", 0, 0), END)
        for word in (7, None, "x", (1, challenge(0)), seal(), nested(10)):
            memory = self.runs(program, (0, 1, 0, 0), run(None), 1, (0, 1, 0, 0), ("told", 1), 2)
            self.runs(program, None, run(None, None), 3, (word, 1, word, 0), ("told", word), 0, memory, word=word)
            self.runs(program, None, run(None), 3, ("z", 1, word, 0), ("ended",), None, memory, word="z")
            # None waits any more.
            self.runs(program, None, run(None), 3, ("z", 1, word, 0), ("ended",), None, memory, word="y")

    def test_no_register_waits_at_first(self):
        self.runs((END,), (0, 1, 2, 3), run(None), 0, (0, 1, 2, 3), ("ended",), word="x")

    def test_ended(self):
        program = (("set", 0, 1), END)
        memory = self.runs(program, (0,) * 4, run(None, None), 1, (1, 0, 0, 0), ("ended",))
        self.runs(program, None, run(None), 1, (1, 0, 0, 0), ("ended",), memory=memory)

    def test_stuck(self):
        program = (("set", 0, 1), ("add", 0, 0, 1), END)
        memory = self.runs(program, (0, "x", 0, 0), run(None, None), 1, (1, "x", 0, 0), ("stuck",))
        self.runs(program, None, run(None), 1, (1, "x", 0, 0), ("stuck",), memory=memory)
        for registers in ((0, 16, 0, 0), (0, -1, 0, 0), (0, 1, 4, 0), (0, None, 0, 0), (0, 1, "x", 0)):
            for instruction in (("load", 0, 1, 2), ("store", 1, 2, 0)):
                self.runs((instruction, END), registers, run(None), 0, registers, ("stuck",))

    def test_a_load(self):
        steps = walked(PAGE, LEAF, ("touch", PAGE, 1)) + run(("touch", PAGE, 3), None)
        program = (("load", 2, 0, 0), ("load", 3, 0, 1), END)
        self.runs(program, (PAGE, 3, 0, 0), steps, 2, (PAGE, 3, SOURCE[1], SOURCE[3]), ("ended",))

    def test_a_store(self):
        put = ("put", PAGE, 2, "w")
        memory = self.runs(
            (("store", 0, 1, 2), END), (PAGE, 2, "w", 0), walked(PAGE, LEAF, put) + run(None), 1, (PAGE, 2, "w", 0), ("ended",),
        )
        self.assertEqual(memory.words(DATA), SOURCE[:2] + ("w",) + SOURCE[3:])

    def test_shared_pages(self):
        put = ("put", HIGH_PAGE, 2, "w")
        program = (("store", 0, 1, 2), ("load", 2, 0, 3), END)
        memory = self.runs(
            program, (HIGH_PAGE, 2, "w", 0), walked(HIGH_PAGE, HIGH_LEAF, put) + run(("touch", HIGH_PAGE, 0), None), 2,
            (HIGH_PAGE, 2, 0, 0), ("ended",),
        )
        self.assertEqual(memory.words(SHARED), (0, 0, "w", 0))
        memory = realm(program=program, registers=(HIGH_PAGE, 2, "w", 0))
        do(memory, ("delegate", SHARED))
        self.runs(
            program, None, walked(HIGH_PAGE, HIGH_LEAF, put), 0, (HIGH_PAGE, 2, "w", 0), ("fault", HIGH_PAGE), memory=memory,
        )

    def test_faults(self):
        program = (("load", 0, 1, 2), END)
        for page, steps in (
            (15, run(("touch", 15, 3), ("walk", ROOT, 3))), (4, run(("touch", 4, 3), ("walk", ROOT, 1))),
            (2, run(("touch", 2, 3), ("walk", ROOT, 0), ("leaf", 2, LEAF, 2))),
            (9, run(("touch", 9, 3), ("walk", ROOT, 2), ("leaf", 9, HIGH_LEAF, 1))),
        ):
            memory = self.runs(program, (0, page, 3, 0), steps, 0, (0, page, 3, 0), ("fault", page))
            # The instruction is made again.
            self.runs(program, None, steps, 0, (0, page, 3, 0), ("fault", page), memory=memory)
        for entry in ("destroyed", ("out", 1), ("leaving", DATA, None), ("leaving", DATA, 2)):
            memory = realm(program=program, registers=(0, PAGE, 3, 0))
            memory.access(MONITOR, ("write", LEAF, PAGE, entry))
            steps = run(("touch", PAGE, 3), ("walk", ROOT, 0), ("leaf", PAGE, LEAF, PAGE))
            self.runs(program, None, steps, 0, (0, PAGE, 3, 0), ("fault", PAGE), memory=memory)

    def test_a_page_that_comes_up_behind_a_fault(self):
        program = (("load", 0, 1, 2), END)
        memory = realm(program=program, registers=(9, 2, 3, 0))
        self.assertEqual(finish(Enter(memory, 0, ("enter", CPU, 0), "m")), ("fault", 2))
        do(memory, ("data_fresh", D, FREE, 2))
        self.runs(program, None, walked(2, LEAF, ("touch", 2, 3)) + run(None), 1, (0, 2, 3, 0), ("ended",), memory=memory)

    def test_a_drop_in_the_midst_of_a_touch(self):
        program = (("load", 0, 1, 2), END)
        first, walk, leaf = ("touch", PAGE, 3), ("walk", ROOT, 0), ("leaf", PAGE, LEAF, PAGE)
        for ahead, steps in (
            (1, [first, walk, leaf, first]), (2, [first, walk, leaf, walk, leaf, first]),
            (3, [first, walk, leaf, first, walk, leaf, first]), (4, [first, walk, leaf, first]),
        ):
            memory = realm(program=program, registers=(0, PAGE, 3, 0))
            enter = Enter(memory, 0, ("enter", CPU, 0), "m")
            for _ in range(len(BEGIN) + ahead):
                enter.step()
            memory.access(("host", 0), ("drop",))
            self.assertEqual(finish(enter), ("ended",))
            made = [request for _, actor, request, _ in memory.log() if actor == ("core", 0)]
            self.assertEqual(made, steps)

    def test_tokens(self):
        program = (("token", 0, 1), ("tell", 0, 0), END)
        for monitor in ("m", "there", ""):
            for word in (0, challenge(3), ("x", seal())):
                made = token(word, monitor, MEASURE[:1] + (("cpu", program, (0, word, 0, 0)),))
                self.runs(
                    program, (0, word, 0, 0), run(("read", D, 2), None), 2, (made, word, 0, 0), ("told", made), 0,
                    monitor=monitor,
                )
        memory = self.runs(program, (0, ranked(36), 0, 0), run(("read", D, 2)), 0, (0, ranked(36), 0, 0), ("stuck",))
        self.runs(program, None, run(("read", D, 2)), 0, (0, ranked(36), 0, 0), ("stuck",), memory=memory)

    def test_the_realm_may_change_while_it_runs(self):
        # What was asked at the beginning is not asked again.
        memory = realm()
        enter = Enter(memory, 0, ("enter", CPU, 0), "m")
        for _ in range(len(BEGIN)):
            enter.step()
        self.assertEqual(finish(Call(memory, 1, ("kill", D))), ("ok",))
        self.assertEqual(finish(enter), ("told", 5))
        self.assertEqual(finish(Enter(memory, 0, ("enter", CPU, 0), "m")), ("no",))

    def test_the_processor_is_present_as_long_as_it_runs(self):
        memory = realm()
        enter = Enter(memory, 1, ("enter", CPU, 0), "m")
        presences = []
        while enter.step() is None:
            presences.append(memory.presence(1))
        self.assertEqual(presences, [None] * 2 + [D] * 12 + [None])
        self.assertEqual((memory.presence(0), memory.presence(2)), (None, None))

    def test_the_core_of_a_run(self):
        memory = realm()
        enter = Enter(memory, 0, ("enter", CPU, 0), "m")
        for _ in range(len(BEGIN)):
            enter.step()
        core = enter.core()
        self.assertEqual((core.program, core.place, core.registers), (memory.words(CPU)[3], 0, (1, "a", None, (2,))))
        enter.step()
        self.assertIs(enter.core(), core)
        self.assertEqual((core.place, core.registers), (1, (5, "a", None, (2,))))
        other = enter.copy(memory.copy())
        self.assertIsNot(other.core(), core)
        self.assertEqual((other.core().place, other.core().registers), (1, (5, "a", None, (2,))))
        finish(enter)
        self.assertEqual((other.core().place, core.place), (1, 2))


class InterruptTest(EnterCase):
    PROGRAM = (("set", 0, 7), ("load", 3, 1, 2), ("tell", 3, 0), END)
    REGISTERS = (0, PAGE, 0, 0)
    STEPS = run(None) + walked(PAGE, LEAF, ("touch", PAGE, 0)) + run(None)
    # The place and the register 3 ahead of each step of the run, and behind the last one.
    PLACES = (0, 1, 1, 1, 1, 2, 3)

    def registers_at(self, place):
        return (7 if place > 0 else 0, PAGE, 0, SOURCE[0] if place > 1 else 0)

    def interrupted(self, number, steps, interrupts):
        """An interrupt ahead of the step of this number lets the run make so many steps."""
        memory = realm(program=self.PROGRAM, registers=self.REGISTERS)
        place = self.PLACES[steps]
        rows = BEGIN + self.STEPS[:steps] + ending(place, self.registers_at(place))
        enter = self.enters(memory, rows, ("interrupted",), interrupts=interrupts)
        self.assertEqual(enter.steps(), steps)
        self.rests(memory, place, self.registers_at(place), None, self.PROGRAM)
        # It goes on where it was; a touch begins anew.
        rest = self.STEPS[self.PLACES.index(place):]
        registers = self.registers_at(3)
        self.enters(memory, BEGIN + rest + ending(3, registers, 0), ("told", SOURCE[0]), word="none waits")
        self.rests(memory, 3, registers, 0, self.PROGRAM)

    def test_ahead_of_the_run(self):
        for number in range(len(BEGIN) + 1):
            self.interrupted(number, 0, (number,))

    def test_at_each_step_of_the_run(self):
        for steps in range(len(self.STEPS)):
            self.interrupted(len(BEGIN) + steps, steps, (len(BEGIN) + steps,))

    def test_more_than_once(self):
        for steps in (0, 3):
            first = len(BEGIN) + steps
            self.interrupted(first, steps, (first, first + 1, first + 2, first + 4))
        self.interrupted(0, 0, (0, 1, 5, 8, 9, 13))
        memory = realm()
        enter = Enter(memory, 0, ("enter", CPU, 0), "m")
        for _ in range(3):
            enter.interrupt()
        self.assertEqual(finish(enter), ("interrupted",))

    def test_behind_the_run(self):
        rows = BEGIN + self.STEPS + ending(3, self.registers_at(3), 0)
        for number in range(len(BEGIN) + len(self.STEPS), len(rows)):
            memory = realm(program=self.PROGRAM, registers=self.REGISTERS)
            self.enters(memory, rows, ("told", SOURCE[0]), interrupts=(number,))
            self.rests(memory, 3, self.registers_at(3), 0, self.PROGRAM)

    def test_of_what_is_refused(self):
        for number in range(6):
            memory = realm("dying")
            self.enters(memory, BEGIN[:4] + STAY_AWAY, ("no",), interrupts=(number,))
        memory = realm()
        leave(memory, CPU, "running", D)
        self.enters(memory, BEGIN[:1], ("no",), interrupts=(0,))

    def test_the_answer_is_taken_though_no_step_is_made(self):
        memory = realm(program=(("tell", 1, 2), END), registers=(0, 1, 0, 0))
        self.assertEqual(finish(Enter(memory, 0, ("enter", CPU, 0), "m")), ("told", 1))
        self.enters(memory, BEGIN + ending(1, (0, 1, "w", 0)), ("interrupted",), word="w", interrupts=(4,))
        self.rests(memory, 1, (0, 1, "w", 0), None, (("tell", 1, 2), END))

    def test_copies_of_what_is_interrupted(self):
        for steps in range(len(self.STEPS)):
            memory = realm(program=self.PROGRAM, registers=self.REGISTERS)
            enter = Enter(memory, 0, ("enter", CPU, 0), "m")
            for _ in range(len(BEGIN) + steps):
                enter.step()
            other = memory.copy()
            copy = enter.copy(other)
            enter.interrupt()
            again = memory.copy()
            second = enter.copy(again)
            self.assertEqual(finish(enter), ("interrupted",))
            self.assertEqual(finish(second), ("interrupted",))
            self.assertEqual(contents(again), contents(memory))
            self.assertEqual(finish(copy), ("told", SOURCE[0]))
            self.assertEqual((copy.steps(), enter.steps()), (len(self.STEPS), steps))

    def test_the_touch_is_given_up(self):
        for steps in range(1, 5):
            memory = realm(program=self.PROGRAM, registers=self.REGISTERS)
            enter = Enter(memory, 0, ("enter", CPU, 0), "m")
            for _ in range(len(BEGIN) + steps):
                enter.step()
            enter.interrupt()
            enter.step()
            self.assertEqual(enter.core().request(ROOT, D), ("core", ("touch", PAGE, 0)))
            self.assertEqual(enter.state()[2:], ("registers", D, ROOT, 4, True, steps, ("interrupted",), None))

    def test_a_waiting_call_sees_the_processor_leave(self):
        memory = realm(program=(("jump", 0),), registers=(0,) * 4)
        enter = Enter(memory, 0, ("enter", CPU, 0), "m")
        for _ in range(100):
            self.assertIsNone(enter.step())
        self.assertEqual((enter.steps(), enter.is_running()), (100 - len(BEGIN), True))
        self.assertEqual(finish(Call(memory, 1, ("data_destroy", D, PAGE))), ("busy",))
        enter.interrupt()
        self.assertEqual(finish(enter), ("interrupted",))
        do(memory, ("data_destroy", D, PAGE))
