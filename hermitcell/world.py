"""Worlds: a memory, and a host that acts on it by what it has seen (points [42] to [44])."""

from hermitcell.callforms import is_call
from hermitcell.calls import Call
from hermitcell.entering import Enter, is_enter
from hermitcell.errors import NotValid
from hermitcell.memory import PROCESSORS, Memory, has_name, is_access, is_processor
from hermitcell.moveforms import is_move
from hermitcell.moves import Move
from hermitcell.paging import Paging, is_paging
from hermitcell.words import Knowledge, is_host_word, is_monitor

MONITORS = 8

# The numbers of the parts of acts; the second one is a processor.
_LENGTHS = {"host": 3, "drop": 2, "call": 3, "step": 2, "interrupt": 2}
_CANNOT = ("cannot",)


def is_act(value):
    """True if the value is an act, but for its request or its call; it may be anything."""
    return has_name(value) and len(value) == _LENGTHS.get(value[0]) and is_processor(value[1])


class World:
    """A memory, the calls that are made on it, and what the host knows."""

    def __init__(self, monitor, known=None):
        if not is_monitor(monitor):
            raise NotValid()
        self.monitor = monitor
        self._known = Knowledge() if known is None else known
        # The wall that is left out; none is, but for the worlds of point [62].
        self._without = None
        self._memory = Memory()
        self._calls = [None] * PROCESSORS
        self._diary = []

    def act(self, act):
        """Does an act; returns its result. Raises NotValid if it is none."""
        if not is_act(act):
            raise NotValid()
        result = self._result_of(*act)
        self._known.take(result)
        self._diary.append((self.monitor, act, result))
        return result

    def view(self):
        """The list of the tuples (act, result) of the host's acts."""
        return [(act, result) for monitor, act, result in self._diary if monitor == self.monitor]

    def memory(self):
        """The memory."""
        return self._memory

    def call(self, p):
        """The call that a processor makes, or None. Raises NotValid if there is no such processor."""
        if not is_processor(p):
            raise NotValid()
        return self._calls[p]

    def knows(self, word):
        """True if the value is a word of hosts that the host can make; it may be anything."""
        return is_host_word(word) and self._known.can_make(word)

    def known(self):
        """What the host knows."""
        return self._known

    def copy(self):
        """A world in the same state, with the same view, that shares nothing."""
        return self.copy_with(self._known.copy())

    def copy_with(self, known):
        """A world in the same state, with the same view, whose host knows this."""
        other = World(self.monitor, known)
        self._give_state(other)
        return other

    def share_diary(self, diary):
        """Notes its acts in this list from now on."""
        self._diary = diary

    def _give_state(self, other):
        """Gives another world the state and the view of this one."""
        other._memory = self._memory.copy()
        other._calls = [None if call is None else call.copy(other._memory) for call in self._calls]
        other._diary = [note for note in self._diary if note[0] == self.monitor]

    def _result_of(self, name, p, what=None):
        """Does an act, if it can be; returns its result. What is the request or the call."""
        call = self._calls[p]
        if name == "drop":
            return self._memory.access(("host", p), ("drop",))
        if name == "host":
            if call is not None or not self._is_request(p, what):
                return _CANNOT
            return self._memory.access(("host", p), what)
        if name == "call":
            return _CANNOT if call is not None else self._begin(p, what)
        if name == "step":
            return _CANNOT if call is None else self._step(p)
        if type(call) is not Enter:
            return _CANNOT
        return call.interrupt()

    def _is_request(self, p, request):
        """True if the request is a read, or a write of what the host can write; it may be anything."""
        if not is_access(("host", p), request) or request[0] == "drop":
            return False
        return request[0] == "read" or self.knows(request[3])

    def _begin(self, p, call):
        """Begins a call, if the host can make it; it may be anything."""
        made = self._made(p, call) if self._known.can_make(call) else None
        if made is None:
            return _CANNOT
        self._calls[p] = made
        return None

    def _made(self, p, call):
        """The object of a call that is made, None if there is no such call."""
        if is_call(call):
            return Call(self._memory, p, call, self._without)
        if is_enter(call):
            return Enter(self._memory, p, call, self.monitor, self._without)
        if is_paging(call):
            return Paging(self._memory, p, call, self.monitor, self._without)
        if is_move(call):
            return Move(self._memory, p, call, self.monitor, self._without)
        return None

    def _step(self, p):
        """Makes the next step of the call of the processor."""
        answer = self._calls[p].step()
        if answer is None:
            return None
        self._calls[p] = None
        return ("answer", answer)


class Net:
    """Worlds with one host: what it learns in one it knows in all."""

    def __init__(self, monitors):
        if not _are_monitors(monitors):
            raise NotValid()
        self._known = Knowledge()
        self._diary = []
        self._worlds = {monitor: World(monitor, self._known) for monitor in monitors}
        self._share_diary()

    def act(self, monitor, act):
        """Does an act in a world; returns its result. Raises NotValid if there is no such world, or the act is none."""
        return self.world(monitor).act(act)

    def world(self, monitor):
        """The world of a monitor. Raises NotValid if the value is none of the names; it may be anything."""
        if not is_monitor(monitor) or monitor not in self._worlds:
            raise NotValid()
        return self._worlds[monitor]

    def view(self):
        """The list of the tuples (monitor, act, result) of the host's acts."""
        return list(self._diary)

    def copy(self):
        """A net in the same state that shares nothing."""
        other = Net(tuple(self._worlds))
        other._known = self._known.copy()
        other._diary = list(self._diary)
        other._worlds = {
            monitor: world.copy_with(other._known) for monitor, world in self._worlds.items()
        }
        other._share_diary()
        return other

    def _share_diary(self):
        """Lets all worlds note their acts in one list, so that their order is kept."""
        for world in self._worlds.values():
            world.share_diary(self._diary)


def _are_monitors(value):
    """True if the value is a tuple of 1 to 8 different names of monitors; it may be anything."""
    if type(value) is not tuple or not 1 <= len(value) <= MONITORS:
        return False
    return all([is_monitor(each) for each in value]) and len(set(value)) == len(value)
