"""Points [47] to [50]."""

import unittest

from hermitcell import plain
from hermitcell.errors import NotValid
from hermitcell.plain import OWN_PAGES, Plain, is_start, start_of
from hermitcell.words import Atom
from tests.helpers import (
    MEASURE, NO_WORDS, PAGE, PROGRAM, REGISTERS, SOURCE, TrickyText, challenge, endless_list, nested, ranked, seal, ticket, token,
)

END = (("end",),)
NO_PAGES = (None,) * 8
WORDS = (5, "x", (), None)


def start(program, registers=(0, 0, 0, 0), pages=NO_PAGES, place=0, waiting=None):
    return (pages, ((program, place, registers, waiting),))


def realm(program, registers=(0, 0, 0, 0), pages=NO_PAGES, place=0, waiting=None, measure=()):
    return Plain("m", measure, start(program, registers, pages, place, waiting))


def page_of(content, page=0):
    return NO_PAGES[:page] + (content,) + NO_PAGES[page + 1:]


def told(made):
    """All that a plain realm tells."""
    return (made.many(), made.pages(), [(made.core(k), made.need(k)) for k in range(made.many())])


class StartTest(unittest.TestCase):
    def test_all_is_defined_in_its_file(self):
        self.assertEqual(OWN_PAGES, 8)
        for each in (start_of, is_start, Plain):
            self.assertEqual(each.__module__, plain.__name__)

    def test_the_start_of_a_measure(self):
        self.assertEqual(start_of(()), (NO_PAGES, ()))
        self.assertEqual(start_of(MEASURE), (page_of(SOURCE, PAGE), ((PROGRAM, 0, REGISTERS, None),)))
        measure = (
            ("cpu", END, (1, 2, 3, 4)), ("page", 7, WORDS), ("cpu", PROGRAM, REGISTERS), ("page", 0, SOURCE),
            ("cpu", END, (1, 2, 3, 4)),
        )
        self.assertEqual(start_of(measure), (
            (SOURCE,) + (None,) * 6 + (WORDS,),
            ((END, 0, (1, 2, 3, 4), None), (PROGRAM, 0, REGISTERS, None), (END, 0, (1, 2, 3, 4), None)),
        ))
        self.assertIs(is_start(start_of(measure)), True)

    def test_what_is_no_measure(self):
        for value in NO_WORDS + (
            None, 0, "x", [], (0,), (("page", 8, WORDS),), (("page", 0, WORDS), ("page", 0, WORDS)), (("cpu", (), REGISTERS),),
            MEASURE[0],
            challenge(0), list(MEASURE),
        ):
            with self.assertRaises(NotValid):
                start_of(value)

    def test_right_starts(self):
        for value in (
            (NO_PAGES, ()), start(END), start(PROGRAM, place=2, waiting=3), start(PROGRAM, waiting=0), (("gone",) * 8, ()),
            ((WORDS, None, "gone") + (None,) * 5, ()), (NO_PAGES, start(END)[1] * 30),
            (((nested(40), ranked(40), seal(), ticket()),) * 8, ()),
            start(END, (nested(10), ranked(36), "", None)),
        ):
            self.assertIs(is_start(value), True, value)

    def test_wrong_pages(self):
        for content in NO_WORDS + (
            0, "Gone", "gon", TrickyText("gone"), (), WORDS[:3], WORDS + (0,), list(WORDS), ("gone",), challenge(0),
        ):
            for page in (0, 7):
                self.assertIs(is_start((page_of(content, page), ())), False, content)
        for i in range(4):
            for word in NO_WORDS:
                self.assertIs(is_start((page_of(WORDS[:i] + (word,) + WORDS[i + 1:]), ())), False)
        for pages in NO_WORDS + (None, 0, (), NO_PAGES[:7], NO_PAGES + (None,), list(NO_PAGES), "gone", challenge(0)):
            self.assertIs(is_start((pages, ())), False)

    def test_wrong_virtual_processors(self):
        right = (PROGRAM, 0, REGISTERS, None)
        wrong = {
            0: NO_WORDS + (None, 0, (), ("end",), [("end",)], (("jump", 1),)),
            1: NO_WORDS + (None, -1, 3, "0", (0,), challenge(0)),
            2: NO_WORDS + (
                None, 0, (), (0,) * 3, (0,) * 5, [0] * 4, (nested(11), 0, 0, 0), (0, 0, 0, ranked(37)), (True, 0, 0, 0),
            ),
            3: NO_WORDS + (-1, 4, "0", (0,), challenge(0)),
        }
        for at, values in wrong.items():
            for value in values:
                cpu = right[:at] + (value,) + right[at + 1:]
                self.assertIs(is_start((NO_PAGES, (cpu,))), False, cpu)
                self.assertIs(is_start((NO_PAGES, (right, cpu))), False, cpu)
        for cpus in NO_WORDS + (
            None, 0, right, (right[:3],), (right + (None,),), [right], (list(right),), ((),), (None,), challenge(0),
        ):
            self.assertIs(is_start((NO_PAGES, cpus)), False, cpus)

    def test_other_values(self):
        for value in NO_WORDS + (
            None, 0, "x", (), (NO_PAGES,), (NO_PAGES, (), ()), [NO_PAGES, ()], ((), NO_PAGES), challenge(0), MEASURE,
            endless_list(),
        ):
            self.assertIs(is_start(value), False)

    def test_wrong_arguments_of_a_realm(self):
        for monitor in NO_WORDS + (None, 0, "", ("m",), "a" * 25, challenge(0)):
            with self.assertRaises(NotValid):
                Plain(monitor, (), (NO_PAGES, ()))
        for measure in NO_WORDS + (None, 0, (0,), list(MEASURE), challenge(0)):
            with self.assertRaises(NotValid):
                Plain("m", measure, (NO_PAGES, ()))
        for value in NO_WORDS + (None, 0, (), (NO_PAGES,), (NO_PAGES, (0,)), MEASURE, challenge(0)):
            with self.assertRaises(NotValid):
                Plain("m", (), value)


class FirstTest(unittest.TestCase):
    def test_what_it_tells(self):
        pages = (WORDS, None, "gone") + (None,) * 5
        made = Plain("m", MEASURE, (pages, ((END, 0, (1, 2, 3, 4), None), (PROGRAM, 1, REGISTERS, 2))))
        self.assertEqual((made.many(), made.pages()), (2, pages))
        self.assertEqual([made.core(0), made.core(1)], [(0, (1, 2, 3, 4), None), (1, REGISTERS, 2)])
        self.assertIs(type(made.pages()), tuple)
        self.assertIs(type(made.core(0)), tuple)

    def test_the_example(self):
        measure = (("cpu", (("load", 0, 1, 1), ("end",)), (5, 0, 0, 0)),)
        made = Plain("m", measure, start_of(measure))
        self.assertEqual(made.need(0), ("load", 0, 0))
        with self.assertRaises(NotValid):
            made.make(0, ("word", 3))
        self.assertEqual(made.pages(), NO_PAGES)
        self.assertIsNone(made.make(0, ("word", 0)))
        self.assertEqual(made.pages(), page_of((0, 0, 0, 0)))
        self.assertEqual(made.core(0), (1, (0, 0, 0, 0), None))

    def test_numbers_that_are_none(self):
        made = Plain("m", (), (NO_PAGES, start(END)[1] * 2))
        before = told(made)
        for k in NO_WORDS + (2, -1, None, "0", (0,), challenge(0)):
            for call in (lambda: made.enter(k, 0), lambda: made.need(k), lambda: made.make(k, None), lambda: made.core(k)):
                with self.assertRaises(NotValid):
                    call()
        self.assertEqual(told(made), before)
        with self.assertRaises(NotValid):
            Plain("m", (), (NO_PAGES, ())).need(0)


class EnterTest(unittest.TestCase):
    def test_a_register_that_waits(self):
        for r in range(4):
            made = realm(END, (1, 2, 3, 4), waiting=r)
            self.assertIsNone(made.enter(0, "word"))
            registers = tuple("word" if r == each else each + 1 for each in range(4))
            self.assertEqual(made.core(0), (0, registers, None))
            # None waits any more.
            self.assertIsNone(made.enter(0, "other"))
            self.assertEqual(made.core(0), (0, registers, None))

    def test_no_register_that_waits(self):
        made = realm(END, (1, 2, 3, 4))
        made.enter(0, "word")
        self.assertEqual(made.core(0), (0, (1, 2, 3, 4), None))

    def test_words(self):
        for word in (None, 0, "x", (), nested(10), ranked(36), seal()):
            made = realm(END, waiting=1)
            made.enter(0, word)
            self.assertEqual(made.core(0), (0, (0, word, 0, 0), None))
        made = realm(END, waiting=1)
        before = told(made)
        for word in NO_WORDS:
            with self.assertRaises(NotValid):
                made.enter(0, word)
            self.assertEqual(told(made), before)

    def test_each_its_own(self):
        made = Plain("m", (), (NO_PAGES, ((END, 0, (0,) * 4, 1), (END, 0, (0,) * 4, 1))))
        made.enter(1, 7)
        self.assertEqual([made.core(0), made.core(1)], [(0, (0,) * 4, 1), (0, (0, 7, 0, 0), None)])


class NeedTest(unittest.TestCase):
    def test_loads_and_stores(self):
        for page in range(16):
            for index in range(4):
                made = realm((("load", 3, 0, 1), ("end",)), (page, index, "w", 0))
                self.assertEqual(made.need(0), ("load", page, index))
                made = realm((("store", 0, 1, 2), ("end",)), (page, index, "w", 0))
                self.assertEqual(made.need(0), ("store", page, index, "w"))

    def test_what_needs_nothing(self):
        for instruction in (
            ("set", 0, 1), ("copy", 0, 1), ("add", 0, 1, 1), ("less", 0, 1, 2), ("same", 0, 1, 2), ("zero", 0, 1), ("jump", 1),
            ("tell", 0, 1), ("token", 0, 1), ("end",),
        ):
            self.assertIsNone(realm((instruction, ("end",))).need(0))
        for registers in (
            (16, 0, 0, 0), (-1, 0, 0, 0), ("0", 0, 0, 0), (None, 0, 0, 0), (0, 4, 0, 0), (0, -1, 0, 0), (0, (), 0, 0),
        ):
            for instruction in (("load", 3, 0, 1), ("store", 0, 1, 3)):
                made = realm((instruction, ("end",)), registers)
                self.assertIsNone(made.need(0))
                self.assertEqual(made.make(0, None), ("stuck",))
                self.assertEqual(made.core(0), (0, registers, None))


class GivenCase(unittest.TestCase):
    LOAD = (("load", 3, 0, 1), ("end",))
    STORE = (("store", 0, 1, 2), ("end",))
    WORD = "w"

    def gives(self, program, page, content, given, behind, index=1):
        """What can be given: behind it the page is this."""
        pages = page_of(content, page) if page < 8 else NO_PAGES
        registers = (page, index, self.WORD, "r")
        made = realm(program, registers, pages)
        is_fault = given == ("fault",)
        self.assertEqual(made.make(0, given), ("fault", page) if is_fault else None)
        if is_fault:
            self.assertEqual(made.core(0), (0, registers, None))
        elif program == self.LOAD:
            self.assertEqual(made.core(0), (1, registers[:3] + (given[1],), None))
        else:
            self.assertEqual(made.core(0), (1, registers, None))
        self.assertEqual(made.pages(), page_of(behind, page) if page < 8 else NO_PAGES)

    def gives_not(self, program, page, content, *wrong, index=1):
        """What cannot be given: nothing changes."""
        pages = page_of(content, page) if page < 8 else NO_PAGES
        made = realm(program, (page, index, self.WORD, "r"), pages)
        before = told(made)
        for given in wrong:
            with self.assertRaises(NotValid, msg=given):
                made.make(0, given)
            self.assertEqual(told(made), before)


class GivenTest(GivenCase):
    NEVER = NO_WORDS + (
        None, 0, "", "word", "done", "fault", (), ("word",), ("word", 0, 0), ("done", 0), ("fault", 0), ("none",), ["word", 0],
        ["fault"],
        ("Word", 0), ("Done",), ("Fault",), (TrickyText("fault"),), (("fault",),), (None,), challenge(0), ("again",), ("told", 0),
        ("word", True), ("word", [0]), ("word", nested(41)), ("refused",),
    )

    def test_what_can_never_be_given(self):
        for page in (0, 7, 8, 15):
            self.gives_not(self.LOAD, page, None, ("done",), *self.NEVER)
            self.gives_not(self.STORE, page, None, ("word", 0), ("word", self.WORD), *self.NEVER)

    def test_a_page_that_was_never_there(self):
        for page in (0, 1, 7):
            self.gives(self.LOAD, page, None, ("word", 0), (0, 0, 0, 0))
            self.gives_not(self.LOAD, page, None, ("word", 1), ("word", None), ("word", ""), ("word", ()), ("word", "r"))
            self.gives(self.STORE, page, None, ("done",), (0, "w", 0, 0))
            for program in (self.LOAD, self.STORE):
                self.gives(program, page, None, ("fault",), None)

    def test_a_page_that_has_words(self):
        for page in (0, 1, 7):
            for index, word in enumerate(WORDS):
                self.gives(self.LOAD, page, WORDS, ("word", word), WORDS, index)
                others = [("word", other) for other in WORDS + (0, "X", challenge(0)) if other != word]
                self.gives_not(self.LOAD, page, WORDS, *others, index=index)
                behind = WORDS[:index] + ("w",) + WORDS[index + 1:]
                self.gives(self.STORE, page, WORDS, ("done",), behind, index)
                for program in (self.LOAD, self.STORE):
                    self.gives(program, page, WORDS, ("fault",), WORDS, index)

    def test_a_page_that_is_gone(self):
        for page in (0, 1, 7):
            self.gives_not(self.LOAD, page, "gone", ("word", 0), ("word", "gone"), ("word", None), ("word", "o"), ("done",))
            self.gives_not(self.STORE, page, "gone", ("done",), ("word", 0))
            for program in (self.LOAD, self.STORE):
                self.gives(program, page, "gone", ("fault",), "gone")

    def test_shared_pages(self):
        for page in (8, 9, 15):
            for word in (0, 1, None, "x", (), nested(40), ranked(36), seal()):
                self.gives(self.LOAD, page, None, ("word", word), None)
            self.gives(self.STORE, page, None, ("done",), None)
            for program in (self.LOAD, self.STORE):
                self.gives(program, page, None, ("fault",), None)
        # What is stored in one is nothing to go by.
        made = realm((("store", 0, 1, 2), ("load", 3, 0, 1), ("end",)), (8, 1, 5, "r"))
        made.make(0, ("done",))
        self.assertIsNone(made.make(0, ("word", 6)))
        self.assertEqual(made.core(0), (2, (8, 1, 5, 6), None))

    def test_words_that_are_atoms(self):
        page = (challenge(1), seal(), ticket(), token(1))
        for index, word in enumerate(page):
            self.gives(self.LOAD, 0, page, ("word", word), page, index)
            self.gives_not(
                self.LOAD, 0, page, ("word", seal(words=None)), ("word", challenge(2)), ("word", token(2)), index=index,
            )

    def test_what_needs_nothing_is_given_none(self):
        for instruction in (("set", 0, 1), ("tell", 0, 1), ("token", 0, 1), ("end",), ("load", 3, 2, 2), ("store", 2, 2, 3)):
            made = realm((instruction, ("end",)), (0, 1, "w", "r"))
            before = told(made)
            for given in NO_WORDS + (0, (), ("word", 0), ("done",), ("fault",), "none", challenge(0)):
                with self.assertRaises(NotValid):
                    made.make(0, given)
                self.assertEqual(told(made), before)

    def test_a_fault_is_made_again(self):
        made = realm(self.LOAD, (2, 1, 0, 0))
        for _ in range(3):
            self.assertEqual(made.make(0, ("fault",)), ("fault", 2))
        self.assertIsNone(made.make(0, ("word", 0)))
        self.assertEqual(made.make(0, None), ("ended",))

    def test_virtual_processors_have_the_same_pages(self):
        made = Plain("m", (), (NO_PAGES, ((self.STORE, 0, (3, 1, "w", 0), None), (self.LOAD, 0, (3, 1, 0, 0), None))))
        self.assertIsNone(made.make(0, ("done",)))
        with self.assertRaises(NotValid):
            made.make(1, ("word", 0))
        self.assertIsNone(made.make(1, ("word", "w")))
        self.assertEqual(made.core(1), (1, (3, 1, 0, "w"), None))


class MakeTest(unittest.TestCase):
    def test_instructions_without_pages(self):
        for instruction, registers, behind, place in (
            (("set", 3, -7), (1, 2, 3, 4), (1, 2, 3, -7), 1), (("copy", 0, 1), (1, "x", 3, 4), ("x", "x", 3, 4), 1),
            (("add", 0, 1, 2), (0, 2 ** 30, 2 ** 30, 0), (-2 ** 31, 2 ** 30, 2 ** 30, 0), 1),
            (("less", 0, 1, 2), (9, 1, 2, 0), (1, 1, 2, 0), 1), (("less", 0, 2, 1), (9, 1, 2, 0), (0, 1, 2, 0), 1),
            (("same", 0, 1, 2), (9, "x", "x", 0), (1, "x", "x", 0), 1), (("same", 0, 1, 2), (9, 0, "0", 0), (0, 0, "0", 0), 1),
            (("zero", 0, 2), (0, 0, 0, 0), (0, 0, 0, 0), 2), (("zero", 0, 2), (1, 0, 0, 0), (1, 0, 0, 0), 1),
            (("jump", 2), (1, 0, 0, 0), (1, 0, 0, 0), 2),
        ):
            made = realm((instruction, ("end",), ("end",)), registers)
            self.assertIsNone(made.make(0, None))
            self.assertEqual(made.core(0), (place, behind, None))

    def test_a_tell(self):
        made = realm((("tell", 0, 3), ("copy", 1, 3), ("tell", 1, 2), ("end",)), ("w", 0, 0, "old"))
        self.assertEqual(made.make(0, None), ("told", "w"))
        self.assertEqual(made.core(0), (1, ("w", 0, 0, "old"), 3))
        made.enter(0, "new")
        self.assertIsNone(made.make(0, None))
        self.assertEqual(made.make(0, None), ("told", "new"))
        self.assertEqual(made.core(0), (3, ("w", "new", 0, "new"), 2))

    def test_one_that_told_can_go_on(self):
        made = realm((("tell", 0, 3), ("copy", 1, 3), ("end",)), ("w", 0, 0, "old"))
        made.make(0, None)
        self.assertIsNone(made.make(0, None))
        self.assertEqual(made.core(0), (2, ("w", "old", 0, "old"), 3))
        made.enter(0, "late")
        self.assertEqual(made.core(0), (2, ("w", "old", 0, "late"), None))

    def test_stuck_and_ended_ones_make_it_again(self):
        for instruction, left in ((("add", 0, 1, 1), ("stuck",)), (("end",), ("ended",)), (("less", 0, 1, 1), ("stuck",))):
            made = realm((instruction, ("end",)), (0, "x", 0, 0))
            for _ in range(3):
                self.assertEqual(made.make(0, None), left)
                made.enter(0, 5)
                self.assertEqual(made.core(0), (0, (0, "x", 0, 0), None))

    def test_an_answer_that_lets_a_stuck_one_go_on(self):
        made = realm((("add", 0, 1, 1), ("end",)), (0, "x", 0, 0), waiting=1)
        self.assertEqual(made.make(0, None), ("stuck",))
        made.enter(0, 4)
        self.assertIsNone(made.make(0, None))
        self.assertEqual(made.core(0), (1, (8, 4, 0, 0), None))

    def test_tokens(self):
        for monitor, measure in (("m", ()), ("here", MEASURE)):
            made = Plain(monitor, measure, start((("token", 0, 1), ("end",)), (0, challenge(3), 0, 0)))
            self.assertIsNone(made.make(0, None))
            self.assertEqual(made.core(0), (1, (Atom("token", (monitor, measure, challenge(3))), challenge(3), 0, 0), None))

    def test_a_token_that_cannot_be(self):
        made = realm((("token", 0, 1), ("end",)), (0, ranked(35), 0, 0))
        self.assertIsNone(made.make(0, None))
        self.assertEqual(made.core(0)[1][0].rank, 36)
        measure = (("page", 0, (ranked(36), 0, 0, 0)),)
        for made in (
            realm((("token", 0, 1), ("end",)), (0, ranked(36), 0, 0)), realm((("token", 0, 1), ("end",)), measure=measure),
        ):
            before = told(made)
            for _ in range(2):
                self.assertEqual(made.make(0, None), ("stuck",))
                self.assertEqual(told(made), before)

    def test_what_is_told_stays(self):
        made = realm(GivenCase.STORE, (3, 1, "w", 0))
        pages, core = made.pages(), made.core(0)
        made.make(0, ("done",))
        self.assertEqual((pages, core), (NO_PAGES, (0, (3, 1, "w", 0), None)))

    def test_realms_of_one_start_go_their_own_ways(self):
        begin = start(GivenCase.STORE, (3, 1, "w", 0))
        one, other = Plain("m", (), begin), Plain("m", (), begin)
        one.make(0, ("done",))
        self.assertEqual(other.pages(), NO_PAGES)
        self.assertEqual(begin, start(GivenCase.STORE, (3, 1, "w", 0)))
