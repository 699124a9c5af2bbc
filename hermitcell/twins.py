"""Twins: two worlds that are alike but for the secrets of one realm (points [57] to [61])."""

from hermitcell.courses import STATE
from hermitcell.errors import NotValid
from hermitcell.machine import is_registers
from hermitcell.memory import GRANULES, PROCESSORS, WORDS, is_granule
from hermitcell.words import atoms_in, is_host_word, is_number, strip, with_atoms
from hermitcell.world import is_act


def in_place(known, value):
    """An act, or another tuple, with each atom in it replaced by the one of known that is the same when stripped."""
    atoms = known.atoms()
    return with_atoms(value, lambda atom: _placed(atoms, atom))


def related(one, other, d):
    """The first word that applies if two worlds are not related for a granule, otherwise the empty string."""
    if _statuses(one) != _statuses(other):
        return "status"
    if not _are_alike(_open_words(one, d), _open_words(other, d)):
        return "words"
    if _processors(one, d) != _processors(other, d):
        return "processors"
    if not _are_alike(_calls(one), _calls(other)):
        return "calls"
    if not _are_alike(one.known().atoms(), other.known().atoms()):
        return "has"
    return ""


def can_change(world, d, g, i, word):
    """True if this word of a granule is a secret of the realm d that can become another one.

    All but the world may be anything.
    """
    memory = world.memory()
    if not is_granule(d) or not is_granule(g) or not is_number(i):
        return False
    if memory.status(d) != ("desc", None, None) or memory.words(d)[STATE] != "active":
        return False
    if d in [memory.presence(p) for p in range(PROCESSORS)]:
        return False
    if memory.status(g) == ("data", d, None):
        return 0 <= i < WORDS and is_host_word(word)
    return memory.status(g) == ("cpu", d, None) and i == 1 and is_registers(word)


class Twins:
    """Twins that are made from a watch for the realm in d, by changing words in the second one."""

    def __init__(self, watch, d, changes):
        self._realm = watch.realm(d)
        if self._realm is None or not _can_change_all(watch.world(), d, changes):
            raise NotValid()
        self._descriptor = d
        self._one = watch.copy()
        self._other = watch.copy()
        for (g, i), word in changes.items():
            self._other.world().memory().change(g, i, word)
        self._parted = None
        self._first_fault = None

    def act(self, act):
        """Does an act in the first world, and put in place in the second one; returns the tuple of both results.

        Raises NotValid if it is no act, or there is an atom in it that the host does not have in the first world.
        """
        known = self._one.world().known()
        if not is_act(act) or not all([known.can_make(atom) for atom in atoms_in(act)]):
            raise NotValid()
        placed = in_place(self._other.world().known(), act)
        number = self._one.acts()
        results = (self._one.act(act), self._other.act(placed))
        if self._parted is None:
            self._compare(number, results)
        return results

    def watches(self):
        """The tuple of the two watches."""
        return (self._one, self._other)

    def parted(self):
        """The number of the first act at which the tells of the realm differ, or None."""
        return self._parted

    def fault(self):
        """The tuple (number of the act, word) of the first act with which the secrecy did not hold, or None."""
        return self._first_fault

    def _compare(self, number, results):
        """Notes whether the realm tells something else in the second world, or else whether the secrecy holds."""
        news = (self._one.news(), self._other.news())
        told = [[note for n, kind, note in row if n == self._realm and kind == "told"] for row in news]
        if not _are_alike(told[0], told[1]):
            self._parted = number
        elif self._first_fault is None:
            word = self._difference(results, news)
            if word != "":
                self._first_fault = (number, word)

    def _difference(self, results, news):
        """The first word that tells how the secrecy does not hold behind an act, the empty string if it holds."""
        if not _are_alike(results[:1], results[1:]):
            return "results"
        word = related(self._one.world(), self._other.world(), self._descriptor)
        if word != "":
            return word
        others = [[each for each in row if each[0] != self._realm] for row in news]
        return "" if _are_alike(others[0], others[1]) else "others"


def _placed(atoms, atom):
    """The first of the atoms that is the same as the atom when stripped; the atom if there is none."""
    for each in atoms:
        if _are_equal_stripped(each, atom):
            return each
    return atom


def _are_equal_stripped(one, other):
    """True if two values are the same when they are stripped."""
    # Most of what is compared is the same also with what seals hold, and stripping takes longer.
    return one == other or strip(one) == strip(other)


def _are_alike(ones, others):
    """True if two lists or tuples are as long, and have the same parts when these are stripped."""
    if len(ones) != len(others):
        return False
    return all([_are_equal_stripped(one, other) for one, other in zip(ones, others)])


def _statuses(world):
    """The list of the status of each granule."""
    memory = world.memory()
    return [memory.status(g) for g in range(GRANULES)]


def _open_words(world, d):
    """The list of the words of each granule that is not free and holds no secrets of the realm d."""
    memory = world.memory()
    found = []
    for g in range(GRANULES):
        state, owner, _ = memory.status(g)
        if state != "free" and not (owner == d and state in ("data", "cpu", "running")):
            found.append(memory.words(g))
    return found


def _processors(world, d):
    """What is not secret of the processors, and the number of tickets."""
    memory = world.memory()
    found = [memory.tickets()]
    for p in range(PROCESSORS):
        presence = memory.presence(p)
        open_parts = None if presence == d else (memory.rows(p), memory.walks(p))
        found.append((presence, memory.dropped(p), open_parts))
    return found


def _calls(world):
    """The list of the states of the calls of the processors, None where there is no call."""
    calls = [world.call(p) for p in range(PROCESSORS)]
    return [None if call is None else call.state() for call in calls]


def _can_change_all(world, d, changes):
    """True if all these words can be changed."""
    for place, word in changes.items():
        if type(place) is not tuple or len(place) != 2 or not can_change(world, d, place[0], place[1], word):
            return False
    return True
