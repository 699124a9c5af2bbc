"""What holds of a memory behind each act of a host (points [45] and [46])."""

from hermitcell.courses import COUNTS, MEASURE, ROOT, STATE, is_low
from hermitcell.memory import GRANULES, PROCESSORS, is_granule
from hermitcell.moveforms import is_state
from hermitcell.tables import is_leaving, map_of, tables_fault
from hermitcell.words import is_number


def audit(memory):
    """The word of the first point that does not hold, the empty string if all do."""
    for name, holds in _POINTS.items():
        if not holds(memory):
            return name
    return ""


def realms(memory):
    """The ascending list of the realms."""
    return [g for g in range(GRANULES) if _is_realm(memory, g)]


def _is_realm(memory, g):
    """True if a granule is that of a realm's descriptor."""
    return memory.status(g)[0] == "desc"


def _is_at_rest(memory, g):
    """True if nobody holds the granule."""
    return memory.status(g)[2] is None


def _realms_at_rest(memory):
    """The list of the realms that nobody holds."""
    return [d for d in realms(memory) if _is_at_rest(memory, d)]


def _owned(memory, d, states):
    """The list of the granules of a realm with one of these states."""
    found = []
    for g in range(GRANULES):
        state, owner, _ = memory.status(g)
        if owner == d and state in states:
            found.append(g)
    return found


def _are_statuses_right(memory):
    return all([_is_status_right(memory, g) for g in range(GRANULES)])


def _is_status_right(memory, g):
    """True if a granule has an owner just if its state asks for one, which is a realm if nobody holds it."""
    state, owner, _ = memory.status(g)
    if state in ("host", "free", "desc"):
        return owner is None
    return owner is not None and (_is_realm(memory, owner) or not _is_at_rest(memory, owner))


def _are_words_right(memory):
    return all([_has_words(memory, d) for d in _realms_at_rest(memory)])


def _has_words(memory, d):
    """True if the words of a realm have their forms."""
    words = memory.words(d)
    root = words[ROOT]
    counts = words[COUNTS]
    if not is_state(words[STATE]) or type(words[MEASURE]) is not tuple:
        return False
    if not is_granule(root) or memory.status(root)[:2] != ("table", d):
        return False
    return type(counts) is tuple and len(counts) == 3 and all([is_number(count) for count in counts])


def _are_tables_right(memory):
    return all([tables_fault(memory, memory.words(d)[ROOT]) == "" for d in _realms_at_rest(memory)])


def _are_counts_right(memory):
    return all([_has_counts(memory, d) for d in _realms_at_rest(memory)])


def _has_counts(memory, d):
    """True if a realm with right tables counts its granules, and each table and data granule has its place."""
    words = memory.words(d)
    root = words[ROOT]
    tables = [g for g in _owned(memory, d, ("table",)) if g != root]
    data = _owned(memory, d, ("data",))
    if words[COUNTS] != (len(_owned(memory, d, ("cpu", "running"))), len(tables), len(data)):
        return False
    leaves = [word[1] for word in memory.words(root) if word is not None]
    entries = [entry for entry in map_of(memory, root) if type(entry) is tuple]
    named = [entry[1] for entry in entries if entry[0] in ("data", "leaving")]
    return all([leaves.count(g) == 1 for g in tables]) and all([named.count(g) == 1 for g in data])


def _are_presences_right(memory):
    presences = [memory.presence(p) for p in range(PROCESSORS)]
    for p, d in enumerate(presences):
        if d is None:
            if len(memory.rows(p)) > 0 or memory.walks(p):
                return False
        elif not _is_realm(memory, d) or len(_owned(memory, d, ("running",))) < presences.count(d):
            return False
    return True


def _are_rows_right(memory):
    for p in range(PROCESSORS):
        for page, row in memory.rows(p).items():
            if not _is_row_right(memory, p, page, row):
                return False
    return True


def _is_row_right(memory, p, page, row):
    """True if a processor that is present in a realm can have this row."""
    kind, g = row
    if not is_low(page):
        return kind == "shared"
    if kind != "data" or not _is_entry_right(memory, p, page, g):
        return False
    return not _is_at_rest(memory, g) or memory.status(g)[:2] == ("data", memory.presence(p))


def _is_entry_right(memory, p, page, g):
    """True if the entry of the page names the granule, and is not one that the processor has dropped."""
    root = memory.words(memory.presence(p))[ROOT]
    if not is_granule(root):
        return False
    entry = map_of(memory, root)[page]
    if is_leaving(entry) and entry[1] == g:
        return entry[2] is None or entry[2] > memory.dropped(p)
    return entry == ("data", g)


# The points, in their order; where one is asked, those ahead of it hold.
_POINTS = {
    "status": _are_statuses_right,
    "words": _are_words_right,
    "tables": _are_tables_right,
    "counts": _are_counts_right,
    "present": _are_presences_right,
    "rows": _are_rows_right,
}
