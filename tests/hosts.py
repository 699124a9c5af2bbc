"""Hosts that draw their acts: now and then what does something, now and then anything."""

from hermitcell.callforms import is_call
from hermitcell.calls import Call
from hermitcell.memory import GRANULES
from hermitcell.moveforms import is_move
from hermitcell.moves import Move
from hermitcell.paging import Paging, is_paging
from hermitcell.tables import leaf_of
from hermitcell.words import Atom

PROGRAMS = (
    # Counts in page 0, tells the sum, and takes the answer into page 0 or a shared page.
    (
        ("load", 1, 0, 0), ("add", 1, 1, 2), ("store", 0, 0, 1), ("tell", 1, 2), ("same", 3, 2, 1), ("zero", 3, 0), ("jump", 0),
    ),
    # Copies from a shared page to page 1, and back to the next word.
    (
        ("set", 0, 8), ("set", 1, 1), ("set", 2, 0), ("load", 3, 0, 2), ("store", 1, 2, 3), ("load", 3, 1, 2),
        ("store", 0, 1, 3), ("tell", 3, 3), ("store", 1, 1, 3), ("jump", 0),
    ),
    # Takes tokens of what it is told, and keeps them.
    (
        ("tell", 0, 1), ("token", 2, 1), ("set", 3, 0), ("store", 3, 3, 2), ("tell", 2, 1), ("load", 1, 3, 3), ("tell", 1, 0),
        ("jump", 0),
    ),
    # Goes on as a word of page 1 tells, for more or fewer steps, and is stuck or ends.
    (
        ("set", 0, 1), ("load", 1, 0, 0), ("zero", 1, 5), ("add", 2, 2, 0), ("store", 0, 0, 2), ("less", 3, 2, 0),
        ("zero", 3, 9), ("tell", 2, 1), ("load", 2, 1, 1), ("store", 0, 0, 3), ("load", 1, 0, 1), ("jump", 12), ("end",),
    ),
)
REGISTERS = ((0, 0, 1, 0), (0, 1, 2, 3), (8, 0, "x", None), (1, 2, 3, 0))
SIMPLE = (0, 1, 2, 3, 8, "x", None, (), ("data", 3), ("table", 2), ("data", (1, "y")), ("shared", 1), "destroyed")


def pick(draw, memory, states):
    """A granule in one of these states, if there is one; now and then any one."""
    found = [g for g in range(GRANULES) if memory.status(g)[0] in states]
    if not found or draw.random() < 0.04:
        return draw.randrange(GRANULES)
    return draw.choice(found)


def drawn_word(draw, world):
    """A word that the host can make."""
    atoms = world.known().atoms()
    simple = draw.choice(SIMPLE)
    if not atoms or draw.random() < 0.6:
        return simple
    atom = draw.choice(atoms)
    return draw.choice((atom, (atom, simple)))


def drawn_atom(draw, world, kind):
    """An atom of the kind that the host has, most often a late one; if it has none, any word."""
    atoms = [atom for atom in world.known().atoms() if atom.kind == kind]
    if not atoms or draw.random() < 0.03:
        return drawn_word(draw, world)
    return draw.choice(atoms[-4:] if draw.random() < 0.8 else atoms)


def drawn_page(draw):
    return draw.choice((0, 0, 1, 1, 2, 3, 8, 9, draw.randrange(16)))


def building(draw, world, d, free):
    """A call that builds, or takes down; most often one that a new realm still needs."""
    memory = world.memory()
    host = pick(draw, memory, ("host",))
    page = drawn_page(draw)
    cpu = ("cpu_create", d, free, draw.choice(PROGRAMS), draw.choice(REGISTERS))
    if memory.status(d) == ("desc", None, None) and draw.random() < 0.8:
        _, root, _, (cpus, tables, pages) = memory.words(d)
        if tables < 2:
            return ("table_create", d, free, 0 if leaf_of(memory.words(root)[0]) is None else 2)
        if pages < 2:
            return ("data_create", d, free, host, pages)
        if cpus < 2:
            return cpu
        return draw.choice((("activate", d), ("share", d, 8, host)))
    if draw.random() < 0.3:
        return ("delegate", host) if draw.random() < 0.8 else ("undelegate", free)
    return draw.choice((
        ("create", free, other(draw, memory, free)), cpu,
        ("create", d, other(draw, memory, d)), ("table_create", d, free, draw.randrange(4)),
        ("data_create", d, free, host, page), ("activate", d), ("share", d, page, draw.choice((host, host, free))),
        ("unshare", d, page),
    ))


def taking(draw, world, d, free):
    """A call that gives to a realm that runs, or takes from one."""
    memory = world.memory()
    page = drawn_page(draw)
    return draw.choice((
        ("data_fresh", d, free, page), ("data_fresh", d, free, draw.choice((0, 1, 2, 3))), ("data_destroy", d, page),
        ("table_destroy", d, draw.randrange(4)), ("page_out", d, page), ("page_out", d, draw.choice((0, 1))),
        page_back(draw, world, d, free), page_back(draw, world, d, free), page_back(draw, world, d, free),
        ("share", d, draw.choice((8, 9)), pick(draw, memory, ("host",))), ("unshare", d, draw.choice((8, 9))),
    ))


def ending(draw, world, d, free):
    """A call that ends a realm, or a part of it."""
    cpu = pick(draw, world.memory(), ("cpu", "running"))
    if draw.random() < 0.03:
        return ("kill", d)
    return draw.choice((
        ("destroy", d), ("destroy", d), ("cpu_destroy", d, cpu), ("cpu_destroy", d, cpu),
        ("data_destroy", d, draw.choice((0, 1, 2, 3))), ("table_destroy", d, draw.choice((0, 2))),
    ))


def page_back(draw, world, d, free):
    atom = drawn_atom(draw, world, "page")
    page = atom.term[2] if type(atom) is Atom and atom.kind == "page" else drawn_page(draw)
    return ("page_in", d, free, page, atom)


def useful_ticket(draw, world):
    """A ticket for the monitor that was not taken yet, if there is one."""
    found = [
        atom for atom in world.known().atoms()
        if atom.kind == "ticket" and atom.term[2] == world.monitor and atom.term[:2] not in world.memory().taken()
    ]
    return draw.choice(found) if found and draw.random() < 0.9 else drawn_atom(draw, world, "ticket")


def useful_seal(draw, world, state):
    """A seal of the realm that comes with this state, if there is one."""
    found = [
        atom for atom in world.known().atoms()
        if atom.kind == "seal" and atom.term[:2] == state[1].term[:2] and atom.term[2] not in state[2]
    ]
    return draw.choice(found) if found and draw.random() < 0.9 else drawn_atom(draw, world, "seal")


def moving(draw, world, d, free, monitors):
    """A call of a move that fits the state of the realm; most often of one that moves already."""
    memory = world.memory()
    going = [g for g in range(GRANULES) if memory.status(g)[0] == "desc" and type(memory.words(g)[0]) is tuple]
    if going and draw.random() < 0.8:
        d = draw.choice(going)
    state = memory.words(d)[0]
    name = state[0] if type(state) is tuple and state else state
    cpus = [g for g in range(GRANULES) if memory.status(g)[:2] == ("cpu", d)]
    cpu = draw.choice(cpus) if cpus else pick(draw, memory, ("cpu",))
    seal = useful_seal(draw, world, state) if name == "coming" else drawn_atom(draw, world, "seal")
    page = seal.term[2] if type(seal) is Atom and seal.kind == "seal" and seal.term[2] < 8 else drawn_page(draw)
    rest = (
        ("freeze", d), ("thaw", d), ("seal", d, page), ("seal_cpu", d, cpu), ("give", d, draw.choice(monitors)), ("ticket", d),
        ("come", free, other(draw, memory, free), useful_ticket(draw, world)), ("strike", d, page),
        ("place", d, free, page, seal), ("place_cpu", d, free, seal), ("begin", d),
    )
    if draw.random() < 0.15:
        return draw.choice(rest)
    if name in ("active", "freezing"):
        return rest[0]
    if name == "frozen":
        return draw.choice((rest[2], ("seal", d, 0), ("seal", d, 1), rest[3], rest[3], rest[4], rest[1]))
    if name == "gone":
        return draw.choice((("seal", d, 0), ("seal", d, 1), rest[2], rest[3], rest[3], rest[5], rest[5]))
    if name == "coming":
        return draw.choice((
            ("table_create", d, free, 0), rest[7], rest[8], rest[8], rest[8], rest[9], rest[9], rest[9], rest[10], rest[10],
            ("strike", d, draw.choice((0, 1, 2))),
        ))
    return rest[6]


def other(draw, memory, g):
    found = pick(draw, memory, ("free",))
    return found if found != g else (g + 1) % GRANULES


def would_do(world, call):
    """True if a call of the host would do its work, if it was made at once."""
    if not world.known().can_make(call):
        return False
    memory = world.memory().copy()
    if is_call(call):
        made = Call(memory, 0, call)
    elif is_paging(call):
        made = Paging(memory, 0, call, world.monitor)
    elif is_move(call):
        made = Move(memory, 0, call, world.monitor)
    else:
        return call[0] == "enter" and memory.status(call[1])[0] == "cpu"
    while made.answer() is None:
        made.step()
    return made.answer()[0] == "ok"


class Drawn:
    """A host that draws its acts for a world, whose calls are kinds with their weights."""

    def __init__(self, draw, monitors=("here", "there", "far"), odd=0.02, moves=0.2, ends=0.05):
        self.draw = draw
        self.monitors = monitors
        self.odd = odd
        self.moves = moves
        self.ends = ends
        self.processors = {}

    def act(self, world):
        """The next act."""
        draw = self.draw
        # Most often it goes on with the same processor, as calls come to nothing if they are woven too much.
        p = self.processors.get(world.monitor, 0)
        if draw.random() < (0.03 if self.is_in_call(world.call(p)) else 0.3):
            p = self.processors[world.monitor] = draw.randrange(3)
        if draw.random() < self.odd:
            return draw.choice((
                ("drop", p), ("interrupt", p), ("step", p), ("call", p, drawn_word(draw, world)), ("host", p, ("drop",)),
                ("host", p, ("write", draw.randrange(GRANULES), 4, 0)), ("call", p, ("come", 1, 2, Atom("challenge", ("q", 9)))),
            ))
        call = world.call(p)
        if call is not None:
            chance = draw.random()
            if hasattr(call, "interrupt") and chance < 0.008:
                return ("interrupt", p)
            return ("drop", draw.randrange(3)) if chance < 0.03 else ("step", p)
        if draw.random() < 0.15:
            g = pick(draw, world.memory(), ("host",))
            if draw.random() < 0.5:
                return ("host", p, ("read", g, draw.randrange(4)))
            return ("host", p, ("write", g, draw.randrange(4), drawn_word(draw, world)))
        return ("call", p, self.call(world))

    def is_in_call(self, call):
        """True if the call holds granules."""
        return call is not None and not hasattr(call, "interrupt")

    def call(self, world):
        """A call that is begun: most often one that would do its work, if it was made at once."""
        call = self.any_call(world)
        for _ in range(5 if self.draw.random() < 0.85 else 0):
            if would_do(world, call):
                return call
            call = self.any_call(world)
        return call

    def any_call(self, world):
        draw, memory = self.draw, world.memory()
        free, d = pick(draw, memory, ("free",)), pick(draw, memory, ("desc",))
        active = [
            g for g in range(GRANULES) if memory.status(g)[0] == "cpu" and memory.words(memory.status(g)[1])[0] == "active"
        ]
        if draw.random() < (0.55 if active else 0.02):
            return ("enter", draw.choice(active) if active else pick(draw, memory, ("cpu",)), drawn_word(draw, world))
        chance = draw.random()
        if chance < self.moves:
            return moving(draw, world, d, free, self.monitors)
        if chance < self.moves + self.ends:
            return ending(draw, world, d, free)
        if memory.status(d)[0] == "desc" and memory.words(d)[0] != "new" and draw.random() < 0.7:
            return taking(draw, world, d, free)
        return building(draw, world, d, free)


def realm_acts(granules, program, registers, p=0, host=None):
    """The calls that make a realm with a leaf table in each half, pages 0 and 1, a shared page 8, and two processors."""
    d, r, t, high, one, two, c, e = granules[:8]
    shared = granules[8] if host is None else host
    return [("delegate", g) for g in granules[:8]] + [
        ("create", d, r), ("table_create", d, t, 0), ("table_create", d, high, 2), ("data_create", d, one, shared, 0),
        ("data_create", d, two, shared, 1), ("share", d, 8, shared), ("cpu_create", d, c, program, registers),
        ("cpu_create", d, e, PROGRAMS[1], REGISTERS[0]), ("activate", d),
    ]


def finish(doer, call, p=0):
    """Makes a call to its end by acts; returns the answer, or what the call has as its result if it cannot be."""
    result = doer(("call", p, call))
    while result is None:
        result = doer(("step", p))
    return result[1] if result[0] == "answer" else result
