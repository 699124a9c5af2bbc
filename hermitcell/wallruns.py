"""For each wall a run that breaks a promise in worlds without it, and in no others (points [63] and [64])."""

from hermitcell.audit import audit, realms
from hermitcell.courses import STATE
from hermitcell.errors import NotValid
from hermitcell.memory import WORDS, is_granule
from hermitcell.twins import Twins
from hermitcell.views import Watch, integrity_fault
from hermitcell.walls import WALLS, WeakWorld
from hermitcell.words import Knowledge, is_form

KINDS = ("audit", "secrecy", "integrity", "line")

_GIVEN = 12
_MONITORS = ("here", "there", "far")
# The numbers of the worlds.
_HERE = 0
_THERE = 1
_FAR = 2
_KIND_OF = {
    "wipe": "secrecy", "source": "secrecy", "fresh": "integrity", "measured": "integrity", "destroyed": "integrity",
    "early": "integrity", "alive": "integrity", "version": "integrity", "once": "line", "target": "line",
    "free": "audit", "wait": "audit", "again": "audit", "rows": "audit", "counts": "audit",
}
# What the pages hold at first, and what is another secret in the place of their first word.
_WORDS = (5, 6, 7, 8)
_OTHER = 9
# A program that reads the first word of page 0, tells it, and ends.
_READER = (("load", 1, 0, 0), ("tell", 1, 2), ("end",))
# One that reads this word for ever.
_WATCHER = (("load", 1, 0, 0), ("jump", 0))
# One that tells ahead of reading this word.
_LATE_READER = (("tell", 1, 2), ("load", 1, 0, 0), ("end",))
# One that puts another word there, tells, and reads it.
_WRITER = (("store", 0, 0, 3), ("tell", 1, 2), ("load", 1, 0, 0), ("end",))
_REGISTERS = (0, 0, 0, _OTHER)


def kind_of(wall):
    """The kind of the promise that the run of the wall breaks. Raises NotValid if the wall is none."""
    if type(wall) is not str or wall not in WALLS:
        raise NotValid()
    return _KIND_OF[wall]


def run_of(wall, granules):
    """The tuple (before, changes, after) of a run that breaks a promise without the wall.

    Raises NotValid if the wall is none, or granules is no tuple of 12 different granules.
    """
    kind_of(wall)
    if not _is_choice(granules):
        raise NotValid()
    make = _RUNS[wall]
    script = Script(wall)
    changes = make(script, granules)
    before, after = script.parts()
    return (before, changes, after)


def is_broken(wall, granules, without):
    """True if the run of the wall breaks its promise in worlds without another wall, None for nothing left out.

    Raises NotValid as run_of does, and if the wall that is left out is none.
    """
    before, changes, after = run_of(wall, granules)
    kind = kind_of(wall)
    worlds = _worlds_without(without)
    watch = Watch(worlds[_HERE])
    _do_all(worlds, watch, before)
    if kind == "secrecy":
        twins = Twins(watch, granules[0], changes)
        for _, act in after:
            twins.act(act)
        return twins.fault() is not None
    _do_all(worlds, watch, after)
    if kind == "integrity":
        return any([integrity_fault(watch, n) is not None for n in range(watch.many())])
    if kind == "audit":
        return any([audit(world.memory()) != "" for world in worlds])
    return sum([_count_of_living(world.memory()) for world in worlds]) > 1


class Script:
    """The acts of a run, which are done at once in worlds without the wall, so that each call comes to its end."""

    def __init__(self, wall):
        self._worlds = _worlds_without(wall)
        self._acts = []
        self._middle = 0

    def act(self, act, at=_HERE):
        """Does an act in the world with this number; returns its result."""
        self._acts.append((at, act))
        return self._worlds[at].act(act)

    def begin(self, call, p=0):
        """Begins a call in the first world."""
        self.act(("call", p, call))

    def finish(self, p=0, at=_HERE):
        """Makes the steps of a call to its end; returns the answer."""
        result = None
        while result is None:
            result = self.act(("step", p), at)
        return result[1]

    def step_to(self, request, p=0):
        """Makes steps of a call in the first world, up to the one that makes this access."""
        memory = self._worlds[_HERE].memory()
        while memory.last()[2] != request:
            self.act(("step", p))

    def call(self, call, at=_HERE, p=0):
        """Makes a call to its end; returns the answer."""
        self.act(("call", p, call), at)
        return self.finish(p, at)

    def write(self, g, words, p=0):
        """Writes words into a granule of the host of the first world, from the first one on."""
        for i, word in enumerate(words):
            self.act(("host", p, ("write", g, i, word)))

    def end_part(self):
        """Ends the first part of the run."""
        self._middle = len(self._acts)

    def parts(self):
        """The tuple of the lists of the acts of both parts."""
        return (self._acts[:self._middle], self._acts[self._middle:])


def _worlds_without(wall):
    """The list of three worlds of one host without a wall. Raises NotValid if the wall is none and not None."""
    known = Knowledge()
    return [WeakWorld(monitor, wall, known) for monitor in _MONITORS]


def _do_all(worlds, watch, acts):
    """Does acts, those in the first world through its watch."""
    for number, act in acts:
        if number == _HERE:
            watch.act(act)
        else:
            worlds[number].act(act)


def _count_of_living(memory):
    """The number of the realms that are neither dying nor gone."""
    states = [memory.words(d)[STATE] for d in realms(memory)]
    return len([state for state in states if state != "dying" and not is_form(state, "gone", 3)])


def _is_choice(value):
    """True if the value is a tuple of 12 different granules; it may be anything."""
    if type(value) is not tuple or len(value) != _GIVEN or not all([is_granule(each) for each in value]):
        return False
    return len(set(value)) == _GIVEN


def _make_realm(script, granules, program):
    """Makes a realm that is new, with a leaf table for its first pages and a virtual processor."""
    d, r, t, c = granules
    for g in granules:
        script.call(("delegate", g))
    script.call(("create", d, r))
    script.call(("table_create", d, t, 0))
    script.call(("cpu_create", d, c, program, _REGISTERS))


def _make_page(script, d, g, s):
    """Gives a realm that is new its page 0, from a source."""
    script.write(s, _WORDS)
    script.call(("delegate", g))
    script.call(("data_create", d, g, s, 0))


def _make_active(script, granules, program):
    """Makes a realm of the first six granules, with page 0, that is active; this is the first part of the run."""
    d, _, _, _, g, s = granules[:6]
    _make_realm(script, granules[:4], program)
    _make_page(script, d, g, s)
    script.call(("activate", d))
    script.end_part()


def _run_wipe(script, granules):
    """The host reads what is left of page 0 of a realm, which it has destroyed."""
    d, _, _, _, g, _ = granules[:6]
    _make_active(script, granules, _READER)
    script.call(("data_destroy", d, 0))
    script.call(("undelegate", g))
    for i in range(WORDS):
        script.act(("host", 0, ("read", g, i)))
    return {(g, 0): _OTHER}


def _run_fresh(script, granules):
    """A page comes up with words of the host."""
    d, _, _, c, g, _ = granules[:6]
    script.write(g, _WORDS)
    script.call(("delegate", g))
    _make_realm(script, granules[:4], _READER)
    script.call(("activate", d))
    script.end_part()
    script.call(("data_fresh", d, g, 0))
    script.call(("enter", c, None))
    return {}


def _run_source(script, granules):
    """Page 0 of the realm is the source of a page of another realm, which tells it."""
    g = granules[4]
    d, _, _, c, own = granules[6:11]
    _make_realm(script, granules[6:10], _READER)
    script.call(("delegate", own))
    _make_active(script, granules, _READER)
    script.call(("data_create", d, own, g, 0))
    script.call(("activate", d))
    script.call(("enter", c, None))
    return {(g, 0): _OTHER}


def _run_measured(script, granules):
    """The host changes the source behind its last copy, ahead of the measuring."""
    d, _, _, c, g, s = granules[:6]
    _make_realm(script, granules[:4], _READER)
    script.write(s, _WORDS)
    script.call(("delegate", g))
    script.end_part()
    script.begin(("data_create", d, g, s, 0))
    script.step_to(("copy", s, WORDS - 1))
    script.write(s, (_OTHER,), 1)
    script.finish()
    script.call(("activate", d))
    script.call(("enter", c, None))
    return {}


def _run_free(script, granules):
    """The granule of page 0 becomes that of page 1, too."""
    d, _, _, _, g, _ = granules[:6]
    _make_active(script, granules, _READER)
    script.call(("data_fresh", d, g, 1))
    return {}


def _run_wait(script, granules):
    """A granule is taken away while a processor has a row of it."""
    d, _, t, c, _, _ = granules[:6]
    _make_active(script, granules, _WATCHER)
    script.begin(("enter", c, None), 1)
    script.step_to(("leaf", 0, t, 0), 1)
    script.call(("data_destroy", d, 0))
    return {}


def _run_again(script, granules):
    """A walk ends in a leaf table that is the host's by then."""
    d, r, t, c, _, s = granules[:6]
    _make_realm(script, granules[:4], _WATCHER)
    script.call(("activate", d))
    script.end_part()
    script.begin(("enter", c, None), 1)
    script.step_to(("walk", r, 0), 1)
    # The first of these waits for the processor, which the drop lets go on, but not with its walk.
    script.call(("table_destroy", d, 0))
    script.act(("drop", 1))
    script.call(("table_destroy", d, 0))
    script.call(("undelegate", t))
    script.write(t, (("data", s),))
    script.act(("step", 1))
    return {}


def _run_rows(script, granules):
    """A processor leaves the realm with a row."""
    _make_active(script, granules, _READER)
    script.call(("enter", granules[3], None))
    return {}


def _run_destroyed(script, granules):
    """A page that was destroyed comes up new."""
    d, _, _, c, g, _ = granules[:6]
    _make_active(script, granules, _READER)
    script.call(("data_destroy", d, 0))
    script.call(("data_fresh", d, g, 0))
    script.call(("enter", c, None))
    return {}


def _run_early(script, granules):
    """A virtual processor comes up behind the measuring."""
    d, _, _, c, _, _, late = granules[:7]
    _make_active(script, granules, _READER)
    script.call(("enter", c, None))
    script.call(("delegate", late))
    script.call(("cpu_create", d, late, _READER, _REGISTERS))
    script.call(("enter", late, None))
    return {}


def _run_alive(script, granules):
    """The realm runs, and is measured, ahead of its page 0."""
    d, _, _, c, g, s = granules[:6]
    _make_realm(script, granules[:4], _LATE_READER)
    script.end_part()
    script.call(("enter", c, None))
    _make_page(script, d, g, s)
    script.call(("enter", c, None))
    return {}


def _run_counts(script, granules):
    """The realm is destroyed ahead of its granules."""
    d = granules[0]
    _make_active(script, granules, _READER)
    script.call(("kill", d))
    script.call(("destroy", d))
    return {}


def _send(script, granules):
    """Makes a realm of the first two granules that goes to the second world; returns its ticket."""
    d, r = granules[:2]
    for call in (("delegate", d), ("delegate", r), ("create", d, r), ("activate", d), ("freeze", d)):
        script.call(call)
    script.call(("give", d, _MONITORS[_THERE]))
    return script.call(("ticket", d))[1]


def _receive(script, d, r, ticket, at):
    """Lets a realm come into a world."""
    for call in (("delegate", d), ("delegate", r), ("come", d, r, ticket)):
        script.call(call, at)


def _run_once(script, granules):
    """A ticket is taken twice."""
    ticket = _send(script, granules)
    script.end_part()
    _receive(script, granules[0], granules[1], ticket, _THERE)
    _receive(script, granules[2], granules[3], ticket, _THERE)
    return {}


def _run_target(script, granules):
    """A realm is given to two monitors."""
    d, r = granules[:2]
    ticket = _send(script, granules)
    script.end_part()
    script.call(("give", d, _MONITORS[_FAR]))
    other = script.call(("ticket", d))[1]
    _receive(script, d, r, ticket, _THERE)
    _receive(script, d, r, other, _FAR)
    return {}


def _run_version(script, granules):
    """Page 0 comes back as it was ahead of a store."""
    d, _, _, c, g, _ = granules[:6]
    _make_active(script, granules, _WRITER)
    atom = script.call(("page_out", d, 0))[1]
    script.call(("page_in", d, g, 0, atom))
    script.call(("enter", c, None))
    script.call(("page_out", d, 0))
    script.call(("page_in", d, g, 0, atom))
    # Another processor has no row of the page, whatever rows outlive.
    script.call(("enter", c, None), _HERE, 1)
    return {}


_RUNS = {
    "wipe": _run_wipe,
    "fresh": _run_fresh,
    "source": _run_source,
    "measured": _run_measured,
    "free": _run_free,
    "wait": _run_wait,
    "again": _run_again,
    "rows": _run_rows,
    "destroyed": _run_destroyed,
    "early": _run_early,
    "alive": _run_alive,
    "counts": _run_counts,
    "once": _run_once,
    "target": _run_target,
    "version": _run_version,
}
