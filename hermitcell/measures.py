"""The measure of a realm, which tells what it began with (points [20], [21] and [30])."""

from hermitcell.machine import is_program, is_registers
from hermitcell.memory import WORDS, is_page
from hermitcell.tables import FIRST_SHARED
from hermitcell.words import is_form, is_word


def is_measure(value):
    """True if the value is a measure, however deep it is nested as a whole; it may be anything."""
    if type(value) is not tuple or not all([_is_page_part(part) or _is_cpu_part(part) for part in value]):
        return False
    pages = [part[1] for part in value if part[0] == "page"]
    return len(set(pages)) == len(pages)


def first_pages(measure):
    """A dict from the pages of a measure to the tuples of their words."""
    return {part[1]: part[2] for part in measure if part[0] == "page"}


def first_cpus(measure):
    """The tuple of the tuples (program, registers) of the virtual processors of a measure, in order."""
    return tuple([part[1:] for part in measure if part[0] == "cpu"])


def _is_page_part(part):
    """True if a part is that of a page; it may be anything."""
    if not is_form(part, "page", 3) or not is_page(part[1]) or part[1] >= FIRST_SHARED:
        return False
    words = part[2]
    return type(words) is tuple and len(words) == WORDS and all([is_word(word) for word in words])


def _is_cpu_part(part):
    """True if a part is that of a virtual processor; it may be anything."""
    return is_form(part, "cpu", 3) and is_program(part[1]) and is_registers(part[2])
