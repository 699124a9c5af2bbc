"""What several tests need: odd values, words of a told form, and all that a memory tells."""

from hermitcell.memory import GRANULES, PROCESSORS
from hermitcell.words import Atom

MONITOR = ("monitor", 0)
HOST = ("host", 0)
CORE = ("core", 0)


class Hostile:
    """A value that is equal to everything, has no hash, and raises where else it is asked."""

    __hash__ = None

    def __eq__(self, other):
        return True

    def __getattr__(self, name):
        raise RuntimeError(name)

    def __bool__(self):
        raise RuntimeError

    def __len__(self):
        raise RuntimeError

    def __iter__(self):
        raise RuntimeError


class TrickyText(str):
    def __eq__(self, other):
        return True

    __hash__ = str.__hash__


def endless_list():
    """A list that has itself as its item."""
    found = []
    found.append(found)
    return found


def nested(many, inner=None):
    """A tuple that is nested so deep."""
    word = () if inner is None else (inner,)
    for _ in range(many - 1):
        word = (word,)
    return word


def doubled(many):
    """A tuple that is nested so deep, and has itself twice at each depth."""
    word = ()
    for _ in range(many - 1):
        word = (word, word)
    return word


# None of these is a word, or a part of anything that the document tells.
NO_WORDS = (
    True, False, 1.0, float("nan"), 1j, b"", b"data", [], ["host"], {}, {1: 2}, {1}, object(), Hostile(), int, len,
    TrickyText("data"), 2 ** 31, -2 ** 31 - 1, 10 ** 100, "a" * 25, "\x1f", "\x7f", "\n", "\u00e9", "\ud800",
    (True,), (1, (2, [3])), ((((1.5,),),),), (Hostile(),), ("data", Hostile()), endless_list(), (endless_list(),),
    nested(41), nested(100000), doubled(300),
)


def challenge(number, name="v"):
    return Atom("challenge", (name, number))


def token(word, monitor="m", measure=()):
    return Atom("token", (monitor, measure, word))


def seal(number=1, place=0, words=(1, 2, 3, 4), source="m", kind="seal"):
    return Atom(kind, (source, number, place, words))


def ticket(pages=(None,) * 8, measure=(), cpus=(), source="m", number=1, target="n"):
    return Atom("ticket", (source, number, target, measure, pages, cpus))


def ranked(rank):
    """An atom of the rank."""
    atom = challenge(0)
    while atom.rank < min(rank, 36):
        atom = token(atom)
    while atom.rank < rank:
        atom = ticket(measure=(atom,))
    return atom


def contents(memory):
    """All that a memory tells."""
    return (
        memory.log(),
        [memory.status(g) for g in range(GRANULES)],
        [memory.words(g) for g in range(GRANULES)],
        [(memory.presence(p), memory.rows(p), memory.walks(p), memory.dropped(p)) for p in range(PROCESSORS)],
        memory.tickets(),
        memory.taken(),
    )


def leave(memory, g, state, owner=None):
    memory.access(MONITOR, ("leave", g, state, owner))


def write(memory, g, *words):
    """Writes the words of a granule from the first one on."""
    for i, word in enumerate(words):
        memory.access(MONITOR, ("write", g, i, word))
