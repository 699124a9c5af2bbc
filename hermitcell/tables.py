"""The tables of a realm, which tell what granule stands behind a page (points [11] to [13])."""

from hermitcell.memory import WORDS, is_granule
from hermitcell.words import is_form, is_number

FIRST_SHARED = 8


def place_of(page):
    """The tuple (word of the root table, word of the leaf table) of a page."""
    return (page // WORDS, page % WORDS)


def granule_of(word, name):
    """The granule g of a word (name, g), otherwise None; the word may be anything."""
    if is_form(word, name, 2) and is_granule(word[1]):
        return word[1]
    return None


def leaf_of(word):
    """The granule t of a word ("table", t) of a root table, otherwise None; it may be anything."""
    return granule_of(word, "table")


def is_root_word(value):
    """True if the value has the form of a word of a root table; it may be anything."""
    return value is None or leaf_of(value) is not None or is_leaving(value)


def is_entry(value):
    """True if the value has the form of an entry; it may be anything."""
    if type(value) is str:
        return value == "destroyed"
    if granule_of(value, "data") is not None or granule_of(value, "shared") is not None:
        return True
    if is_form(value, "out", 2):
        return _is_from_one_on(value[1])
    return value is None or is_leaving(value)


def is_leaving(value):
    """True if the value is a tuple ("leaving", g, n); it may be anything."""
    if not is_form(value, "leaving", 3) or not is_granule(value[1]):
        return False
    return value[2] is None or _is_from_one_on(value[2])


def map_of(memory, root):
    """The list of what the 16 pages have, for the root table in the granule root."""
    found = []
    for word in memory.words(root):
        leaf = leaf_of(word)
        if leaf is None:
            found.extend([None] * WORDS)
        else:
            found.extend(memory.words(leaf))
    return found


def tables_fault(memory, root):
    """The first fault of the tables whose root is this granule, the empty string if they are right."""
    if not _is_table(memory, root, is_root_word):
        return "root"
    if not _are_leaves_right(memory, root):
        return "leaf"
    return _fault_of_pages(memory, root)


def _is_from_one_on(value):
    """True if the value is a number from 1 on."""
    return is_number(value) and value > 0


def _is_table(memory, g, has_form):
    """True if the state of the granule is "table", and each of its words has the form."""
    return memory.status(g)[0] == "table" and all([has_form(word) for word in memory.words(g)])


def _are_leaves_right(memory, root):
    """True if all leaf tables are, also those that are being destroyed."""
    owner = memory.status(root)[1]
    before = [root]
    for word in memory.words(root):
        if word is not None:
            leaf = word[1]
            if leaf in before or memory.status(leaf)[1] != owner or not _is_table(memory, leaf, is_entry):
                return False
            before.append(leaf)
    return True


def _fault_of_pages(memory, root):
    """The first fault of the entries, the empty string if there is none."""
    owner = memory.status(root)[1]
    before = []
    for page, entry in enumerate(map_of(memory, root)):
        if _is_in_wrong_half(page, entry):
            return "half"
        if type(entry) is tuple and entry[0] in ("data", "leaving"):
            g = entry[1]
            if g in before or memory.status(g)[:2] != ("data", owner):
                return "data"
            before.append(g)
    return ""


def _is_in_wrong_half(page, entry):
    """True if the entry stands in a half of the pages in which it must not stand."""
    return type(entry) is tuple and (entry[0] == "shared") != (page >= FIRST_SHARED)
