"""Letting a virtual processor of a realm run (points [31] to [35])."""

from hermitcell.callforms import are_parts
from hermitcell.courses import ROOT, STATE
from hermitcell.errors import NotValid
from hermitcell.machine import Core
from hermitcell.memory import WORDS, is_processor
from hermitcell.words import is_form

# The stage behind each other one, but for the run and where the realm is refused.
_NEXT = {
    "swap": "look", "look": "present", "present": "state", "state": "root", "root": "parts", "parts": "run",
    "place": "registers", "registers": "waiting", "waiting": "absent", "absent": "rest", "rest": "rest",
}


def is_enter(value):
    """True if the value is a tuple ("enter", c, answer); it may be anything."""
    return is_form(value, "enter", 3) and are_parts(value[1:], ("granule", "host word"))


class Enter:
    """A call ("enter", c, answer), made by a processor on a memory, whose monitor has this name.

    It can be made without the wall "alive" of point [62].
    """

    def __init__(self, memory, processor, call, monitor, without=None):
        if not is_enter(call) or not is_processor(processor):
            raise NotValid()
        self._memory = memory
        self._processor = processor
        self._call = call
        self._monitor = monitor
        self._without = without
        self._stage = "swap"
        self._descriptor = None
        self._root = None
        self._parts = []
        self._waiting = None
        self._core = None
        self._is_interrupted = False
        self._steps = 0
        self._left = None
        self._answer = None

    def step(self):
        """Makes the next step; returns the answer if it was the last one, otherwise None."""
        if self._answer is not None:
            raise NotValid()
        if self._stage == "run" and self._is_interrupted:
            self._core.give_up()
            self._leave(("interrupted",))
        if self._stage == "run":
            self._run()
        else:
            self._take(self._memory.access(("monitor", self._processor), self._next_request()))
        return self._answer

    def interrupt(self):
        """Interrupts the run."""
        self._is_interrupted = True

    def is_running(self):
        """True while the virtual processor runs."""
        return self._stage == "run"

    def answer(self):
        """The answer, None as long as the call goes on."""
        return self._answer

    def steps(self):
        """The number of the steps of the virtual processor so far."""
        return self._steps

    def realm(self):
        """The granule of the realm's descriptor, None before it is known."""
        return self._descriptor

    def core(self):
        """The virtual processor that runs or ran, None before."""
        return self._core

    def left(self):
        """What the run ended with, None before."""
        return self._left

    def state(self):
        """The tuple of all that the call has read and will do, without the virtual processor."""
        _, c, word = self._call
        return (
            c, word, self._stage, self._descriptor, self._root, len(self._parts), self._is_interrupted, self._steps,
            self._left, self._answer,
        )

    def copy(self, memory):
        """The same call on another memory."""
        other = Enter(memory, self._processor, self._call, self._monitor, self._without)
        other._stage = self._stage
        other._descriptor = self._descriptor
        other._root = self._root
        other._parts = list(self._parts)
        other._waiting = self._waiting
        other._core = None if self._core is None else self._core.copied()
        other._is_interrupted = self._is_interrupted
        other._steps = self._steps
        other._left = self._left
        other._answer = self._answer
        return other

    def _next_request(self):
        """The access of the monitor that comes next."""
        c = self._call[1]
        if self._stage == "swap":
            return ("swap", c, "cpu", "running")
        if self._stage == "look":
            return ("look", c)
        if self._stage == "present":
            return ("present", self._descriptor)
        if self._stage == "state":
            return ("read", self._descriptor, STATE)
        if self._stage == "root":
            return ("read", self._descriptor, ROOT)
        if self._stage == "parts":
            return ("read", c, len(self._parts))
        if self._stage == "place":
            return ("write", c, 0, self._core.place)
        if self._stage == "registers":
            return ("write", c, 1, self._core.registers)
        if self._stage == "waiting":
            return ("write", c, 2, self._waiting)
        if self._stage == "absent":
            return ("present", None)
        return ("rest", c)

    def _take(self, result):
        """Takes the result of an access of the monitor."""
        if self._stage == "swap" and not result:
            self._answer = ("no",)
            return
        if self._stage == "state" and result != "active" and self._without != "alive":
            self._stage = "absent"
            self._left = ("no",)
            return
        if self._stage == "look":
            self._descriptor = result[1]
        elif self._stage == "root":
            self._root = result
        elif self._stage == "parts":
            self._parts.append(result)
            if len(self._parts) < WORDS:
                return
            self._begin()
        elif self._stage == "rest":
            self._answer = self._left
        self._stage = _NEXT[self._stage]

    def _begin(self):
        """Makes the virtual processor of what was read; a register that waits becomes the answer of the call."""
        place, registers, waiting, program = self._parts
        self._core = Core(program, place, registers)
        if waiting is not None:
            self._core.answer(waiting, self._call[2])

    def _run(self):
        """Makes a step of the virtual processor."""
        core = self._core
        instruction = core.program[core.place]
        access = core.request(self._root, self._descriptor)
        result = None
        if access is not None:
            kind, request = access
            result = self._memory.access((kind, self._processor), request)
        left = core.step(result, self._monitor)
        self._steps += 1
        if left is not None:
            if left[0] == "told":
                self._waiting = instruction[2]
            self._leave(left)

    def _leave(self, left):
        """Ends the run."""
        self._left = left
        self._stage = "place"
