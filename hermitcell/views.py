"""What the host sees of realms, and what realms make (points [51] to [56])."""

from hermitcell.courses import MEASURE, ROOT
from hermitcell.entering import Enter
from hermitcell.errors import NotValid
from hermitcell.measures import is_measure
from hermitcell.memory import PROCESSORS, is_granule
from hermitcell.plain import OWN_PAGES, Plain, is_start, start_of
from hermitcell.tables import granule_of, map_of
from hermitcell.words import is_number
from hermitcell.world import World, is_act


def integrity_fault(watch, n):
    """The index of the first that a realm made and the plain realm cannot make, None if there is none.

    Raises NotValid if there is no realm with this number.
    """
    made = watch.makes(n)
    measure = watch.measure(n)
    start = watch.start(n)
    if len(made) == 0:
        return None
    if not is_measure(measure) or not is_start(start):
        return 0
    plain = Plain(watch.world().monitor, measure, start)
    for at, note in enumerate(made):
        if not _can_make(plain, note):
            return at
    return None


def _can_make(plain, note):
    """True if the plain realm can make what a realm made; then it has made it."""
    name, k, *parts = note
    try:
        if name == "enter":
            plain.enter(k, parts[0])
            return True
        return plain.make(k, parts[0]) == parts[1]
    except NotValid:
        return False


class Life:
    """What is noted of a realm: its descriptor, whether it came from another monitor, and what it told and made."""

    def __init__(self, home, has_come):
        self.home = home
        self.has_come = has_come
        self.cpus = []
        self.told = []
        self.made = []
        self.is_noted = False
        self.first_measure = None
        self.first_start = None

    def copy(self):
        """A life with the same notes."""
        other = Life(self.home, self.has_come)
        other.cpus = list(self.cpus)
        other.told = list(self.told)
        other.made = list(self.made)
        other.is_noted = self.is_noted
        other.first_measure = self.first_measure
        other.first_start = self.first_start
        return other

    def number_of_cpu(self, c):
        """The number of the virtual processor in a granule, None if it has none."""
        return self.cpus.index(c) if c in self.cpus else None

    def note_start(self, memory):
        """Notes the measure and the start, once."""
        if self.is_noted:
            return
        self.is_noted = True
        self.first_measure = memory.words(self.home)[MEASURE]
        if self.has_come:
            self.first_start = _start_in(memory, self.home, self.cpus)
        elif is_measure(self.first_measure):
            self.first_start = start_of(self.first_measure)


class Watch:
    """A watch of a world: all acts are done through it, and it notes what realms tell and make."""

    def __init__(self, world):
        if len(world.view()) > 0:
            raise NotValid()
        self._world = world
        self._many_acts = 0
        # The calls that the processors make, as the host told them.
        self._calls = [None] * PROCESSORS
        self._lives = []
        # The numbers of the realms that are not over, by their descriptors.
        self._numbers = {}
        self._news = []

    def act(self, act):
        """Does an act; returns its result. Raises NotValid if it is none."""
        if not is_act(act):
            raise NotValid()
        name, p = act[:2]
        call = self._world.call(p)
        is_enter_step = name == "step" and type(call) is Enter
        ahead = _progress(call) if is_enter_step else None
        result = self._world.act(act)
        self._news = []
        if name == "call" and result is None:
            self._calls[p] = act[2]
        if is_enter_step:
            self._note_step(p, call, ahead)
        if type(result) is tuple and result[0] == "answer" and result[1][0] == "ok":
            self._note_answer(self._calls[p])
        self._many_acts += 1
        return result

    def world(self):
        """The world."""
        return self._world

    def many(self):
        """The number of realms so far."""
        return len(self._lives)

    def realm(self, d):
        """The number of the realm whose descriptor is the granule d now, or None."""
        return self._numbers.get(d) if is_granule(d) else None

    def descriptor(self, n):
        """The granule of the descriptor of a realm. Raises NotValid if there is none."""
        return self._life(n).home

    def cores(self, n):
        """The list of the granules of the virtual processors of a realm, in order. Raises NotValid if there is none."""
        return list(self._life(n).cpus)

    def tells(self, n):
        """The list of what a realm told. Raises NotValid if there is none."""
        return list(self._life(n).told)

    def makes(self, n):
        """The list of what a realm made. Raises NotValid if there is none."""
        return list(self._life(n).made)

    def measure(self, n):
        """The measure with which a realm began to run here, None ahead of that. Raises NotValid if there is none."""
        return self._life(n).first_measure

    def start(self, n):
        """The start with which a realm began to run here, None ahead of that. Raises NotValid if there is none."""
        return self._life(n).first_start

    def acts(self):
        """The number of acts so far."""
        return self._many_acts

    def news(self):
        """The list of what the last act had noted: tuples (number of the realm, "told" or "made", note)."""
        return list(self._news)

    def copy(self):
        """A watch of a copy of the world, with the same notes."""
        other = Watch(World(self._world.monitor))
        other._world = self._world.copy()
        other._many_acts = self._many_acts
        other._calls = list(self._calls)
        other._lives = [life.copy() for life in self._lives]
        other._numbers = dict(self._numbers)
        other._news = list(self._news)
        return other

    def _life(self, n):
        """What is noted of a realm. Raises NotValid if there is none with this number."""
        if not is_number(n) or not 0 <= n < len(self._lives):
            raise NotValid()
        return self._lives[n]

    def _note_answer(self, call):
        """Notes what a call did that is answered with ("ok", ..)."""
        name, d = call[:2]
        if name in ("create", "come"):
            self._numbers[d] = len(self._lives)
            self._lives.append(Life(d, name == "come"))
        n = self.realm(d)
        if n is None:
            return
        if name == "destroy":
            del self._numbers[d]
        elif name in ("cpu_create", "place_cpu"):
            self._lives[n].cpus.append(call[2])
        elif name == "begin":
            self._lives[n].note_start(self._world.memory())

    def _note_step(self, p, call, ahead):
        """Notes what a step of an enter did."""
        n = self.realm(call.realm())
        if n is None:
            return
        _, c, word = self._calls[p]
        k = self._lives[n].number_of_cpu(c)
        was_there, steps, touches = ahead
        if call.core() is not None and not was_there:
            self._lives[n].note_start(self._world.memory())
            self._note_made(n, ("enter", k, word))
        if call.steps() > steps:
            left = None if call.is_running() else call.left()
            given = self._given_in_step(left) if touches else None
            if given is not None or not touches:
                self._note_made(n, ("make", k, given, left))
            if left is not None:
                self._note_told(n, ("left", c, left))
            elif given == ("done",):
                self._note_store(n, p)

    def _given_in_step(self, left):
        """What the step of a load or store was given, None if its touch is under way; left is what it left with."""
        if left is not None:
            return ("fault",)
        request, result = self._world.memory().last()[2:]
        return result if request[0] in ("touch", "put") and result[0] in ("word", "done") else None

    def _note_store(self, n, p):
        """Notes the store that the processor has made, if it went into a granule of the host."""
        memory = self._world.memory()
        _, page, index, word = memory.last()[2]
        kind, g = memory.rows(p)[page]
        if kind == "shared":
            self._note_told(n, ("store", g, index, word))

    def _note_told(self, n, what):
        """Notes what a realm tells with this act."""
        note = (self._many_acts, what)
        self._lives[n].told.append(note)
        self._news.append((n, "told", note))

    def _note_made(self, n, what):
        """Notes what a realm makes with this act."""
        self._lives[n].made.append(what)
        self._news.append((n, "made", what))


def _progress(call):
    """How far an enter has come: whether it has a virtual processor, the steps of it, and whether it makes a touch."""
    core = call.core()
    if core is None:
        return (False, 0, False)
    # Where the tables stand is of no concern, only what kind of access it is.
    access = core.request(0, 0)
    return (True, call.steps(), access is not None and access[0] == "core")


def _start_in(memory, d, cpus):
    """The start of a realm that came, as its granules hold it."""
    entries = map_of(memory, memory.words(d)[ROOT])[:OWN_PAGES]
    contents = [memory.words(c) for c in cpus]
    begins = [(program, place, registers, waiting) for place, registers, waiting, program in contents]
    return (tuple([_content_of(memory, entry) for entry in entries]), tuple(begins))


def _content_of(memory, entry):
    """What a page with this entry is at the start."""
    g = granule_of(entry, "data")
    if g is not None:
        return memory.words(g)
    return "gone" if entry == "destroyed" else None
