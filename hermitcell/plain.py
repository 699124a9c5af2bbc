"""The plain realm: a realm by itself, as the writer of its program thinks of it (points [47] to [51])."""

from hermitcell.errors import NotValid
from hermitcell.machine import REGISTERS, Core, is_program, is_registers
from hermitcell.measures import first_cpus, first_pages, is_measure
from hermitcell.memory import WORDS
from hermitcell.words import is_form, is_monitor, is_number, is_word

OWN_PAGES = 8


def start_of(measure):
    """The start of a measure. Raises NotValid if it is none."""
    if not is_measure(measure):
        raise NotValid()
    pages = first_pages(measure)
    cpus = [(program, 0, registers, None) for program, registers in first_cpus(measure)]
    return (tuple([pages.get(page) for page in range(OWN_PAGES)]), tuple(cpus))


def is_start(value):
    """True if the value has the form of a start; it may be anything."""
    if type(value) is not tuple or len(value) != 2:
        return False
    pages, cpus = value
    if type(pages) is not tuple or len(pages) != OWN_PAGES or type(cpus) is not tuple:
        return False
    return all([_is_content(page) for page in pages]) and all([_is_cpu(cpu) for cpu in cpus])


class Plain:
    """A realm with nobody else there, whose monitor has this name."""

    def __init__(self, monitor, measure, start):
        if not is_monitor(monitor) or not is_measure(measure) or not is_start(start):
            raise NotValid()
        pages, cpus = start
        self._monitor = monitor
        self._measure = measure
        self._pages = list(pages)
        self._cores = [Core(program, place, registers) for program, place, registers, _ in cpus]
        self._waiting = [cpu[3] for cpu in cpus]

    def many(self):
        """The number of virtual processors."""
        return len(self._cores)

    def enter(self, k, word):
        """Enters a virtual processor with a word. Raises NotValid for a number or a word that is none."""
        core = self._cpu(k)
        if not is_word(word):
            raise NotValid()
        if self._waiting[k] is not None:
            core.answer(self._waiting[k], word)
            self._waiting[k] = None

    def need(self, k):
        """What the next instruction of k needs: ("load", page, index), ("store", page, index, word), or None."""
        # Where the tables of a realm would stand is of no concern: the plain realm has none.
        access = self._cpu(k).request(0, 0)
        if access is None or access[0] == "monitor":
            return None
        name, *parts = access[1]
        return ("load" if name == "touch" else "store", *parts)

    def make(self, k, given):
        """Makes the next instruction of k; returns None, or what it leaves with.

        Raises NotValid if k is none, or if this cannot be given.
        """
        need = self.need(k)
        if not self._can_give(need, given):
            raise NotValid()
        if need is not None and given[0] != "fault":
            self._touch(need)
        core = self._cores[k]
        instruction = core.program[core.place]
        left = core.step(self._measure if instruction[0] == "token" else given, self._monitor)
        if instruction[0] == "tell":
            self._waiting[k] = instruction[2]
        return left

    def pages(self):
        """The tuple of the eight pages."""
        return tuple(self._pages)

    def core(self, k):
        """The tuple (place, registers, the register that waits or None). Raises NotValid for a k that is none."""
        core = self._cpu(k)
        return (core.place, core.registers, self._waiting[k])

    def _cpu(self, k):
        """The virtual processor with a number. Raises NotValid if it is none."""
        if not is_number(k) or not 0 <= k < len(self._cores):
            raise NotValid()
        return self._cores[k]

    def _can_give(self, need, given):
        """True if this can be given to an instruction with this need; it may be anything."""
        if need is None:
            return given is None
        name, page, index = need[:3]
        if is_form(given, "fault", 1):
            return True
        if name == "store":
            return is_form(given, "done", 1) and self._can_be_there(page)
        if not is_form(given, "word", 2) or not is_word(given[1]) or not self._can_be_there(page):
            return False
        return page >= OWN_PAGES or given[1] == self._content(page)[index]

    def _can_be_there(self, page):
        """True if a page can be given as there."""
        return page >= OWN_PAGES or self._pages[page] != "gone"

    def _content(self, page):
        """The words of a page of its own that is not gone; it comes up with 0 in each."""
        words = self._pages[page]
        return (0,) * WORDS if words is None else words

    def _touch(self, need):
        """Makes a page be there, and puts the word of a store into it."""
        page, index = need[1:3]
        if page >= OWN_PAGES:
            return
        words = list(self._content(page))
        if need[0] == "store":
            words[index] = need[3]
        self._pages[page] = tuple(words)


def _is_content(value):
    """True if the value is what a page can be at first; it may be anything."""
    if type(value) is tuple:
        return len(value) == WORDS and all([is_word(word) for word in value])
    return value is None or type(value) is str and value == "gone"


def _is_cpu(value):
    """True if the value tells how a virtual processor begins; it may be anything."""
    if type(value) is not tuple or len(value) != 4:
        return False
    program, place, registers, waiting = value
    if not is_program(program) or not is_registers(registers):
        return False
    if not is_number(place) or not 0 <= place < len(program):
        return False
    return waiting is None or is_number(waiting) and 0 <= waiting < REGISTERS
