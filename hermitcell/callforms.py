"""The forms of the calls that build realms and take them down (point [21])."""

from hermitcell.machine import is_program, is_registers
from hermitcell.memory import fits, has_name
from hermitcell.words import is_host_word, is_text

CALLS = (
    "delegate", "undelegate", "create", "table_create", "table_destroy", "data_create", "data_fresh", "data_destroy",
    "share", "unshare", "cpu_create", "cpu_destroy", "activate", "kill", "destroy",
)

# What the parts behind the name of a call are; "index" is that of a word of the root table.
_FORMS = {
    "delegate": ("granule",),
    "undelegate": ("granule",),
    "create": ("granule", "granule"),
    "table_create": ("granule", "granule", "index"),
    "table_destroy": ("granule", "index"),
    "data_create": ("granule", "granule", "granule", "page"),
    "data_fresh": ("granule", "granule", "page"),
    "data_destroy": ("granule", "page"),
    "share": ("granule", "page", "granule"),
    "unshare": ("granule", "page"),
    "cpu_create": ("granule", "granule", "program", "registers"),
    "cpu_destroy": ("granule", "granule"),
    "activate": ("granule",),
    "kill": ("granule",),
    "destroy": ("granule",),
}


def is_call(value):
    """True if the value is a call of the table; it may be anything."""
    return has_name(value) and are_parts(value[1:], _FORMS.get(value[0]))


def are_parts(parts, forms):
    """True if the parts have these forms, and their granules are all different; without forms nothing has them."""
    if forms is None or len(parts) != len(forms):
        return False
    if not all([_is_part(part, form) for part, form in zip(parts, forms)]):
        return False
    granules = [part for part, form in zip(parts, forms) if form == "granule"]
    return len(set(granules)) == len(granules)


def _is_part(part, form):
    """True if a part of a call is what the form tells; it may be anything."""
    if form == "program":
        return is_program(part)
    if form == "registers":
        return is_registers(part)
    if form == "host word":
        return is_host_word(part)
    if form == "text":
        return is_text(part)
    return fits(part, form)
