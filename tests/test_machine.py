"""Points [14] to [18], and [5] for the tokens that a virtual processor makes."""

import unittest

from hermitcell import machine
from hermitcell.machine import MOST_INSTRUCTIONS, REGISTERS, Core, is_program, is_registers, wrapped
from hermitcell.words import GREATEST, LEAST
from tests.helpers import NO_WORDS, TrickyText, challenge, nested, ranked, seal, ticket, token

END = ("end",)
NO_INTEGERS = (None, "", "1", "0", (), (1,), challenge(0), token(0), seal())
NO_PAGES = (-1, 16, LEAST, GREATEST) + NO_INTEGERS
NO_INDICES = (-1, 4, LEAST, GREATEST) + NO_INTEGERS
# Each instruction with what its parts are, r for a register, n for an integer, t for a place in a program of three.
FORMS = {
    "set": "rn", "copy": "rr", "add": "rrr", "less": "rrr", "same": "rrr", "zero": "rt", "jump": "t", "load": "rrr",
    "store": "rrr", "tell": "rr", "token": "rr", "end": "",
}
RIGHT = {"r": (0, 1, 3), "n": (0, -1, LEAST, GREATEST), "t": (0, 1, 2)}
WRONG = {
    "r": (-1, 4, GREATEST), "n": (LEAST - 1, GREATEST + 1, 10 ** 100), "t": (-1, 3, 24, GREATEST),
}
WRONG_NUMBERS = (None, True, False, "0", 0.0, 1.0, (), (0,), [0], challenge(0)) + NO_WORDS


def core_of(*instructions, registers=(0, 0, 0, 0), place=0):
    """A virtual processor at a place of a program that goes on behind its instructions with ends."""
    return Core(instructions + (END,) * 2, place, registers)


def state_of(core):
    return (core.program, core.place, core.registers)


class FormTest(unittest.TestCase):
    def test_constants(self):
        self.assertEqual((MOST_INSTRUCTIONS, REGISTERS), (24, 4))
        for each in (is_program, is_registers, wrapped, Core):
            self.assertEqual(each.__module__, machine.__name__)

    def test_lengths(self):
        for many in (1, 2, 23, 24):
            self.assertIs(is_program((END,) * many), True)
            self.assertIs(is_program((("jump", many - 1),) * many), True)
            self.assertIs(is_program((("jump", many),) * many), False)
            self.assertIs(is_program((("zero", 0, many - 1),) * (many - 1) + (END,)), True)
        for many in (0, 25, 26, 100):
            self.assertIs(is_program((END,) * many), False)

    def test_each_instruction(self):
        for name, parts in FORMS.items():
            for at, part in enumerate(parts):
                for value in RIGHT[part]:
                    self.is_instruction(True, self.instruction(name, at, value))
                for value in WRONG[part] + WRONG_NUMBERS:
                    self.is_instruction(False, self.instruction(name, at, value))

    def test_number_of_parts(self):
        for name, parts in FORMS.items():
            right = self.instruction(name)
            self.is_instruction(True, right)
            self.is_instruction(False, right + (0,))
            self.is_instruction(False, right + (None,))
            self.is_instruction(False, right[:-1])
            self.is_instruction(False, list(right))
            self.is_instruction(False, (list(right),))
            self.is_instruction(False, (right,))
            for other in (name.upper(), name + " ", "", TrickyText(name), None, 0, (name,), [name], challenge(0)):
                self.is_instruction(False, (other,) + right[1:])

    def test_last_instruction(self):
        for name in FORMS:
            right = self.instruction(name)
            self.assertIs(is_program((right,)), name in ("jump", "end"))
            self.assertIs(is_program((END, ("jump", 0), right)), name in ("jump", "end"))

    def test_what_is_no_program(self):
        for value in NO_WORDS + (
            None, 0, "end", ("end",), [END], [END, END], {0: END}, (END, None), (END, "end"), ((),), (END, ()), challenge(0),
        ):
            self.assertIs(is_program(value), False)

    def instruction(self, name, at=None, value=None):
        found = [name] + [0] * len(FORMS[name])
        if at is not None:
            found[at + 1] = value
        return tuple(found)

    def is_instruction(self, is_right, value):
        """Asks if a value is an instruction, as the first and the second of three."""
        for program in ((value, END, END), (END, value, END)):
            self.assertIs(is_program(program), is_right, value)

    def test_registers(self):
        for word in (None, 0, LEAST, GREATEST, "", "a" * 24, (), nested(10), challenge(0), ranked(36), seal(), (1, (2,))):
            for at in range(4):
                self.assertIs(is_registers((0,) * at + (word,) + (0,) * (3 - at)), True)
        for word in NO_WORDS + (nested(11), ranked(37), (ranked(37),), ticket(measure=(ranked(36),))):
            for at in range(4):
                self.assertIs(is_registers((0,) * at + (word,) + (0,) * (3 - at)), False)
        for value in NO_WORDS + (None, 0, "", "abcd", (), (0,) * 3, (0,) * 5, [0] * 4, ((0,) * 4,), challenge(0)):
            self.assertIs(is_registers(value), False)

    def test_wrapped(self):
        for number in (0, 1, -1, LEAST, GREATEST, LEAST + 1, 12345, -54321):
            for many in (0, 1, -1, 2, -2, 7, -7, 10 ** 30, -10 ** 30, 2 ** 200, -2 ** 200):
                self.assertEqual(wrapped(number + many * 2 ** 32), number)
        self.assertEqual(wrapped(GREATEST + 1), LEAST)
        self.assertEqual(wrapped(LEAST - 1), GREATEST)
        self.assertEqual(wrapped(2 * GREATEST), -2)
        self.assertEqual(wrapped(2 * LEAST), 0)


class StepCase(unittest.TestCase):
    def becomes(self, core, place, registers, left=None, result=None):
        """Makes a step without an access."""
        program = core.program
        self.assertIsNone(core.request(9, 8))
        self.assertEqual(core.step(result, "m"), left)
        self.assertEqual(state_of(core), (program, place, registers))

    def asks(self, core, kind, *request, root=9, descriptor=8):
        """Asks for the access of the next step, and that asking changes nothing."""
        before = state_of(core)
        for _ in range(2):
            self.assertEqual(core.request(root, descriptor), (kind, request))
        self.assertEqual(state_of(core), before)

    def goes_on(self, core, result, left=None):
        """Makes a step of a touch behind which the instruction is not done."""
        before = state_of(core)
        self.assertEqual(core.step(result, "m"), left)
        self.assertEqual(state_of(core), before)


class InstructionTest(StepCase):
    def test_fields(self):
        core = Core((END,), 0, (1, "a", None, ()))
        self.assertEqual(state_of(core), ((END,), 0, (1, "a", None, ())))
        self.assertIs(type(core.registers), tuple)

    def test_set(self):
        for r in range(4):
            for n in (0, 7, LEAST, GREATEST):
                expected = [(1,), "x", None, challenge(0)]
                core = core_of(("set", r, n), registers=tuple(expected))
                expected[r] = n
                self.becomes(core, 1, tuple(expected))

    def test_copy(self):
        words = (5, "x", (None, challenge(1)), seal())
        for r in range(4):
            for a in range(4):
                expected = list(words)
                expected[r] = words[a]
                self.becomes(core_of(("copy", r, a), registers=words), 1, tuple(expected))

    def test_add(self):
        for one, other, total in (
            (0, 0, 0), (1, 2, 3), (5, -7, -2), (GREATEST, 1, LEAST), (LEAST, -1, GREATEST), (GREATEST, GREATEST, -2),
            (LEAST, LEAST, 0), (GREATEST, LEAST, -1), (2 ** 30, 2 ** 30, LEAST), (LEAST, 0, LEAST), (GREATEST, 0, GREATEST),
        ):
            self.becomes(core_of(("add", 3, 1, 2), registers=("x", one, other, None)), 1, ("x", one, other, total))
            self.becomes(core_of(("add", 1, 1, 2), registers=("x", one, other, None)), 1, ("x", total, other, None))

    def test_the_example(self):
        core = Core((("add", 0, 1, 1), ("jump", 0)), 0, (0, 2 ** 30, 0, 0))
        self.becomes(core, 1, (-2 ** 31, 2 ** 30, 0, 0))

    def test_less(self):
        numbers = (LEAST, -1, 0, 1, GREATEST)
        for one in numbers:
            for other in numbers:
                words = (None, one, other, "x")
                self.becomes(core_of(("less", 0, 1, 2), registers=words), 1, (int(one < other),) + words[1:])

    def test_results_are_no_truths(self):
        for name in ("less", "same"):
            for registers in ((1, 2, 0, 0), (2, 2, 0, 0), (2, 1, 0, 0)):
                core = core_of((name, 3, 0, 1), registers=registers)
                core.step(None, "m")
                self.assertIs(type(core.registers[3]), int)

    def test_same(self):
        words = (0, 1, LEAST, None, "", "0", "1", (), (0,), ((),), (None,), challenge(0), challenge(1), seal(),
                 seal(words=None), seal(kind="page"), token(1), token((1,)), (challenge(0),))
        for at, one in enumerate(words):
            for number, other in enumerate(words):
                core = core_of(("same", 0, 2, 3), registers=(7, 7, one, other))
                self.becomes(core, 1, (int(at == number), 7, one, other))
        self.becomes(
            core_of(("same", 0, 2, 3), registers=(7, 7, (1, challenge(2)), (1, challenge(2)))), 1,
            (1, 7, (1, challenge(2)), (1, challenge(2))),
        )

    def test_zero(self):
        for place in (0, 1, 2):
            self.becomes(core_of(("zero", 2, place), registers=(1, 1, 0, 1)), place, (1, 1, 0, 1))
        for word in (1, -1, LEAST, GREATEST) + NO_INTEGERS:
            self.becomes(core_of(("zero", 2, 2), registers=(0, 0, word, 0)), 1, (0, 0, word, 0))

    def test_jump(self):
        for place in (0, 1, 2):
            self.becomes(core_of(("jump", place), registers=("x", 0, 0, 0)), place, ("x", 0, 0, 0))
        core = Core((("set", 0, 1), ("jump", 0)), 1, (0, 0, 0, 0))
        self.becomes(core, 0, (0, 0, 0, 0))
        self.becomes(core, 1, (1, 0, 0, 0))

    def test_tell(self):
        for word in (0, GREATEST, None, "x", (1, ("y",)), challenge(3), seal()):
            core = core_of(("tell", 2, 1), registers=(0, 1, word, 3))
            self.becomes(core, 1, (0, 1, word, 3), ("told", word))

    def test_end(self):
        core = core_of(registers=(1, "x", None, ()))
        for _ in range(3):
            self.becomes(core, 0, (1, "x", None, ()), ("ended",))

    def test_stuck_where_integers_are_asked(self):
        for name in ("add", "less"):
            for word in NO_INTEGERS:
                for registers in ((0, word, 1, 0), (0, 1, word, 0), (0, word, word, 0)):
                    core = core_of((name, 3, 1, 2), registers=registers)
                    # It is stuck again when it is entered again.
                    for _ in range(3):
                        self.becomes(core, 0, registers, ("stuck",))
                    core.answer(1, 3)
                    core.answer(2, 4)
                    self.becomes(core, 1, (0, 3, 4, 7 if name == "add" else 1))

    def test_answer(self):
        words = (1, "x", None, challenge(0))
        for register in range(4):
            for word in (5, None, (1,), seal()):
                core = core_of(END, registers=words)
                self.assertIsNone(core.answer(register, word))
                expected = list(words)
                expected[register] = word
                self.assertEqual(state_of(core), ((END,) * 3, 0, tuple(expected)))
                self.assertIs(type(core.registers), tuple)

    def test_copies(self):
        core = core_of(("set", 0, 1), ("set", 1, 2))
        core.step(None, "m")
        other = core.copied()
        self.assertIs(type(other), Core)
        self.assertEqual(state_of(other), state_of(core))
        core.step(None, "m")
        self.assertEqual((other.place, other.registers), (1, (1, 0, 0, 0)))
        other.answer(3, "x")
        self.assertEqual((core.place, core.registers), (2, (1, 2, 0, 0)))


class TouchTest(StepCase):
    def test_a_load_from_a_row(self):
        for page in (0, 7, 8, 15):
            for index in range(4):
                for word in (0, None, "x", ("table", 3), challenge(1)):
                    core = core_of(("load", 0, 1, 2), registers=("r", page, index, 9))
                    self.asks(core, "core", "touch", page, index)
                    self.assertIsNone(core.step(("word", word), "m"))
                    self.assertEqual((core.place, core.registers), (1, (word, page, index, 9)))

    def test_a_store_by_a_row(self):
        for page in (0, 7, 8, 15):
            for index in range(4):
                for word in (0, None, "x", (1, challenge(1))):
                    core = core_of(("store", 1, 2, 3), registers=("r", page, index, word))
                    self.asks(core, "core", "put", page, index, word)
                    self.assertIsNone(core.step(("done",), "m"))
                    self.assertEqual((core.place, core.registers), (1, ("r", page, index, word)))

    def test_a_load_into_the_register_that_tells_the_page(self):
        core = core_of(("load", 1, 1, 1), registers=(9, 2, 9, 9))
        self.asks(core, "core", "touch", 2, 2)
        self.assertIsNone(core.step(("word", "w"), "m"))
        self.assertEqual((core.place, core.registers), (1, (9, "w", 9, 9)))

    def each(self, page=6, index=3):
        """A load and a store, with the first access of their touch and its good result."""
        registers = ("r", page, index, "w")
        return (
            (core_of(("load", 0, 1, 2), registers=registers), ("touch", page, index), ("word", "v")),
            (core_of(("store", 1, 2, 3), registers=registers), ("put", page, index, "w"), ("done",)),
        )

    def is_done(self, core, result):
        self.assertIsNone(core.step(result, "m"))
        self.assertEqual(core.place, 1)
        self.assertEqual(core.registers[0], "v" if result[0] == "word" else "r")
        self.assertEqual(core.registers[1:], (6, 3, "w"))

    def test_all_steps(self):
        for row in (("data", 11), ("shared", 12), ("data", 0), ("shared", 23)):
            for core, first, good in self.each():
                for _ in range(2):
                    self.asks(core, "core", *first)
                    self.goes_on(core, ("none",))
                    self.asks(core, "core", "walk", 9, 1)
                    self.goes_on(core, ("word", ("table", 5)))
                    self.asks(core, "core", "leaf", 6, 5, 2)
                    self.goes_on(core, ("word", row))
                self.asks(core, "core", *first)
                self.is_done(core, good)

    def test_places_of_pages(self):
        for page in range(16):
            core = core_of(("load", 0, 1, 2), registers=(0, page, 0, 0))
            self.goes_on(core, ("none",))
            self.asks(core, "core", "walk", 23, page // 4, root=23)
            self.goes_on(core, ("word", ("table", 0)))
            self.asks(core, "core", "leaf", page, 0, page % 4, root=23)

    def test_again(self):
        for core, first, good in self.each():
            self.goes_on(core, ("none",))
            for t in (5, 17, 6):
                self.asks(core, "core", "walk", 9, 1)
                self.goes_on(core, ("word", ("table", t)))
                self.asks(core, "core", "leaf", 6, t, 2)
                self.goes_on(core, ("again",))
            self.asks(core, "core", "walk", 9, 1)
            self.goes_on(core, ("word", ("table", 18)))
            self.goes_on(core, ("word", ("data", 3)))
            self.asks(core, "core", *first)
            self.is_done(core, good)

    def test_a_table_that_is_gone(self):
        for word in (
            None, 0, "table", ("leaving", 5, None), ("leaving", 5, 3), ("table",), ("table", 24), ("table", None),
            ("table", 5, 5), ("data", 5), challenge(5), ("table", "5"),
        ):
            for core, first, good in self.each():
                self.goes_on(core, ("none",))
                self.goes_on(core, ("word", word), ("fault", 6))
                self.asks(core, "core", *first)
                self.is_done(core, good)

    def test_an_entry_that_is_gone(self):
        for word in (
            None, 0, "destroyed", "data", ("leaving", 5, None), ("leaving", 5, 3), ("out", 3), ("data",), ("data", 24),
            ("data", 5, 5), ("shared", None), ("table", 5), challenge(5), ("shared", "5"),
        ):
            for core, first, good in self.each():
                self.goes_on(core, ("none",))
                self.goes_on(core, ("word", ("table", 5)))
                self.goes_on(core, ("word", word), ("fault", 6))
                # It begins anew with the first step.
                self.asks(core, "core", *first)
                self.goes_on(core, ("none",))
                self.asks(core, "core", "walk", 9, 1)
                core.give_up()
                self.is_done(core, good)

    def test_a_row_that_faults(self):
        for core, first, good in self.each():
            for _ in range(2):
                self.goes_on(core, ("fault",), ("fault", 6))
                self.asks(core, "core", *first)
            self.goes_on(core, ("none",))
            self.goes_on(core, ("word", ("table", 5)))
            self.goes_on(core, ("word", ("shared", 5)))
            self.goes_on(core, ("fault",), ("fault", 6))
            self.asks(core, "core", *first)
            self.is_done(core, good)

    def test_stuck(self):
        for word in NO_PAGES:
            self.is_stuck(("load", 0, 1, 2), (0, word, 1, 3))
            self.is_stuck(("store", 1, 2, 3), (0, word, 1, 3))
        for word in NO_INDICES:
            self.is_stuck(("load", 0, 1, 2), (0, 1, word, 3))
            self.is_stuck(("store", 1, 2, 3), (0, 1, word, 3))
        self.is_stuck(("load", 0, 1, 2), (0, 16, 4, 3))

    def is_stuck(self, instruction, registers):
        core = core_of(instruction, registers=registers)
        for _ in range(2):
            self.becomes(core, 0, registers, ("stuck",))
        core.answer(1, 15)
        core.answer(2, 3)
        self.assertIsNotNone(core.request(9, 8))

    def steps_of_a_touch(self):
        return (), (("none",),), (("none",), ("word", ("table", 5))), (("none",), ("word", ("table", 5)), ("word", ("data", 7)))

    def test_give_up(self):
        for results in self.steps_of_a_touch():
            for core, first, good in self.each():
                for result in results:
                    self.goes_on(core, result)
                before = state_of(core)
                for _ in range(2):
                    self.assertIsNone(core.give_up())
                    self.assertEqual(state_of(core), before)
                    self.asks(core, "core", *first)
                self.is_done(core, good)

    def test_give_up_of_nothing(self):
        for instruction in (("set", 0, 1), ("tell", 0, 1), ("token", 0, 1), END):
            core = core_of(instruction, registers=(1, 2, 3, 4))
            asked = core.request(9, 8)
            core.give_up()
            self.assertEqual((state_of(core), core.request(9, 8)), (state_of(core_of(instruction, registers=(1, 2, 3, 4))), asked))

    def test_copies_in_a_touch(self):
        for results in self.steps_of_a_touch():
            for core, first, good in self.each():
                for result in results:
                    core.step(result, "m")
                other = core.copied()
                self.assertEqual(other.request(9, 8), core.request(9, 8))
                core.give_up()
                self.is_done(core, good)
                for result in self.steps_of_a_touch()[-1][len(results):]:
                    self.goes_on(other, result)
                self.is_done(other, good)

    def test_the_next_touch_begins_with_its_first_step(self):
        core = Core((("load", 0, 1, 2), ("store", 1, 2, 3), END), 0, (0, 5, 2, 8))
        for result in self.steps_of_a_touch()[-1]:
            core.step(result, "m")
        core.step(("word", 1), "m")
        self.asks(core, "core", "put", 5, 2, 8)


class TokenTest(StepCase):
    def test_a_token(self):
        for word in (0, None, "x", (1, challenge(2)), challenge(3), seal(), ranked(35)):
            for measure in ((), (("page", 0, (1, 2, 3, seal())),), (ranked(35),)):
                core = core_of(("token", 0, 2), registers=("r", 1, word, 3))
                self.asks(core, "monitor", "read", 8, 2)
                self.asks(core, "monitor", "read", 23, 2, descriptor=23)
                self.assertIsNone(core.step(measure, "name"))
                made = token(word, "name", measure)
                self.assertEqual((core.place, core.registers), (1, (made, 1, word, 3)))

    def test_a_monitor_without_a_name(self):
        core = core_of(("token", 0, 0))
        core.step((), "")
        self.assertEqual(core.registers[0], token(0, ""))

    def test_no_token(self):
        for word, measure in ((ranked(36), ()), ((1, ranked(36)), ()), (ticket(measure=(ranked(36),)), ()), (0, (ranked(36),))):
            core = core_of(("token", 0, 2), registers=("r", 1, word, 3))
            for _ in range(3):
                self.asks(core, "monitor", "read", 8, 2)
                self.goes_on(core, measure, ("stuck",))
            core.answer(2, 5)
            self.assertIsNone(core.step((), "m"))
            self.assertEqual(core.registers[0], token(5))

    def test_tokens_in_tokens_until_there_can_be_none_more(self):
        core = Core((("token", 1, 1), ("jump", 0)), 0, (0, challenge(0), 0, 0))
        for rank in range(2, 37):
            self.asks(core, "monitor", "read", 8, 2)
            self.assertIsNone(core.step((), "m"))
            self.assertEqual(core.registers[1].rank, rank)
            self.becomes(core, 0, core.registers)
        self.asks(core, "monitor", "read", 8, 2)
        self.goes_on(core, (), ("stuck",))
