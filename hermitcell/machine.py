"""Programs, and the virtual processors that run them (points [14] to [18])."""

from hermitcell.errors import NotValid
from hermitcell.memory import WORDS, has_name, is_page, is_row
from hermitcell.tables import leaf_of, place_of
from hermitcell.tokens import token_of
from hermitcell.words import LEAST, is_host_word, is_number

MOST_INSTRUCTIONS = 24
REGISTERS = 4

# What the parts behind the name of an instruction are.
_FORMS = {
    "set": ("register", "number"),
    "copy": ("register", "register"),
    "add": ("register", "register", "register"),
    "less": ("register", "register", "register"),
    "same": ("register", "register", "register"),
    "zero": ("register", "place"),
    "jump": ("place",),
    "load": ("register", "register", "register"),
    "store": ("register", "register", "register"),
    "tell": ("register", "register"),
    "token": ("register", "register"),
    "end": (),
}
# The word of a realm's descriptor in which its measure stands.
_MEASURE = 2


def is_program(value):
    """True if the value is a program; it may be anything."""
    if type(value) is not tuple or not 1 <= len(value) <= MOST_INSTRUCTIONS:
        return False
    if not all([_is_instruction(each, len(value)) for each in value]):
        return False
    return value[-1][0] in ("jump", "end")


def is_registers(value):
    """True if the value is a tuple of 4 words that a host can hand in; it may be anything."""
    return type(value) is tuple and len(value) == REGISTERS and all([is_host_word(word) for word in value])


def wrapped(number):
    """An integer brought into the range of words by a multiple of 2 ** 32."""
    return (number - LEAST) % 2 ** 32 + LEAST


class Core:
    """A virtual processor: its program, place and registers, and how far a touch has come."""

    def __init__(self, program, place, registers):
        self.program = program
        self.place = place
        self.registers = registers
        # The step of point [16] that comes next, and the leaf table that the walk of step 2 has found.
        self._stage = "touch"
        self._table = None

    def request(self, root, descriptor):
        """The access that the next step makes, as a tuple (kind, request); None if it makes none."""
        instruction = self.program[self.place]
        if instruction[0] == "token":
            return ("monitor", ("read", descriptor, _MEASURE))
        where = self._where()
        if where is None:
            return None
        page, index = where
        k, i = place_of(page)
        if self._stage == "walk":
            return ("core", ("walk", root, k))
        if self._stage == "leaf":
            return ("core", ("leaf", page, self._table, i))
        if instruction[0] == "load":
            return ("core", ("touch", page, index))
        return ("core", ("put", page, index, self.registers[instruction[3]]))

    def step(self, result, monitor):
        """Makes the next step, with the result of its access; returns what it leaves with, or None."""
        instruction = self.program[self.place]
        name = instruction[0]
        if name == "end":
            return ("ended",)
        if name == "tell":
            self.place += 1
            return ("told", self.registers[instruction[1]])
        if name in ("zero", "jump"):
            return self._jump(instruction)
        if name == "token":
            return self._take_token(instruction, result, monitor)
        if name in ("load", "store"):
            return self._go_on_with_touch(result)
        return self._compute(instruction)

    def give_up(self):
        """Gives up the touch that is under way, if there is one."""
        self._stage = "touch"
        self._table = None

    def answer(self, register, word):
        """Puts a word into a register."""
        registers = list(self.registers)
        registers[register] = word
        self.registers = tuple(registers)

    def copied(self):
        """A virtual processor in the same state."""
        other = Core(self.program, self.place, self.registers)
        other._stage = self._stage
        other._table = self._table
        return other

    def _jump(self, instruction):
        """Makes a jump, or a zero."""
        if instruction[0] == "jump" or self.registers[instruction[1]] == 0:
            self.place = instruction[-1]
        else:
            self.place += 1

    def _compute(self, instruction):
        """Makes an instruction that needs the registers alone; returns what it leaves with, or None."""
        name, r, *parts = instruction
        if name == "set":
            return self._finish(r, parts[0])
        words = [self.registers[part] for part in parts]
        if name == "copy":
            return self._finish(r, words[0])
        one, other = words
        if name == "same":
            return self._finish(r, 1 if one == other else 0)
        if not is_number(one) or not is_number(other):
            return ("stuck",)
        if name == "add":
            return self._finish(r, wrapped(one + other))
        return self._finish(r, 1 if one < other else 0)

    def _take_token(self, instruction, measure, monitor):
        """Makes a token for the measure that was read; returns what it leaves with, or None."""
        _, r, a = instruction
        try:
            token = token_of(monitor, measure, self.registers[a])
        except NotValid:
            return ("stuck",)
        return self._finish(r, token)

    def _finish(self, r, word):
        """Gives a register its word, and goes to the next instruction; nothing is left."""
        self.answer(r, word)
        self.place += 1

    def _where(self):
        """The tuple (page, index) of a load or store; None if it is stuck, or the instruction is another one."""
        name, *parts = self.program[self.place]
        if name == "load":
            _, a, b = parts
        elif name == "store":
            a, b, _ = parts
        else:
            return None
        page = self.registers[a]
        index = self.registers[b]
        if not is_page(page) or not is_number(index) or not 0 <= index < WORDS:
            return None
        return (page, index)

    def _go_on_with_touch(self, result):
        """Makes a step of a load or store."""
        where = self._where()
        if where is None:
            return ("stuck",)
        if self._stage == "touch":
            return self._take_touch(where[0], result)
        if self._stage == "walk":
            self._table = leaf_of(result[1])
            if self._table is None:
                return self._fault(where[0])
            self._stage = "leaf"
        elif result[0] == "again":
            self._stage = "walk"
        elif is_row(result[1]):
            self._stage = "touch"
        else:
            return self._fault(where[0])
        return None

    def _take_touch(self, page, result):
        """Takes the result of step 1 of point [16]."""
        if result[0] == "none":
            self._stage = "walk"
        elif result[0] == "fault":
            return self._fault(page)
        elif result[0] == "word":
            self._finish(self.program[self.place][1], result[1])
        else:
            self.place += 1
        return None

    def _fault(self, page):
        """Leaves the touch, so that the instruction begins anew."""
        self.give_up()
        return ("fault", page)


def _is_instruction(value, many):
    """True if the value is an instruction of a program of so many; it may be anything."""
    if not has_name(value):
        return False
    forms = _FORMS.get(value[0])
    if forms is None or len(value) != len(forms) + 1:
        return False
    return all([_has_form(part, form, many) for part, form in zip(value[1:], forms)])


def _has_form(part, form, many):
    """True if a part of an instruction of a program of so many has the form; it may be anything."""
    if form == "register":
        return is_number(part) and 0 <= part < REGISTERS
    if form == "place":
        return is_number(part) and 0 <= part < many
    return is_number(part)
