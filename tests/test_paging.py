"""Points [24] to [27]."""

from hermitcell import paging
from hermitcell.calls import Call
from hermitcell.errors import NotValid
from hermitcell.memory import Memory
from hermitcell.paging import PAGINGS, Paging, is_paging, page_atom
from hermitcell.tables import map_of, tables_fault
from hermitcell.words import Atom
from tests.helpers import (
    D, DATA, FREE, HIGH_LEAF, HIGH_PAGE, LEAF, MEASURE, MONITOR, NO_WORDS, OTHER_FREE, PAGE, ROOT, SHARED, SOURCE, FormCase,
    RealmCase, TrickyText, WaitingCase, challenge, contents, do, finish, nested, put, ranked, realm, seal, ticket, token,
    wipes, write,
)

FORMS = ((("page_out", 1, 3), "gp"), (("page_in", 1, 5, 3, seal(kind="page")), "ggph"))
ATOM = page_atom("m", 1, PAGE, SOURCE)


class PagingFormTest(FormCase):
    RIGHT = {
        "g": (0, 23, 11), "p": (0, 7, 8, 15),
        "h": (None, 0, "x", (), nested(10), ranked(36), seal(kind="page", words=None), seal(), token(1), challenge(0)),
    }
    WRONG = {"g": (24, -1, None, "1", (1,)), "p": (16, -1, None, "1", (1,)), "h": (nested(11), ranked(37), (ranked(37),))}

    def is_form(self, value):
        return is_paging(value)

    def test_names(self):
        self.assertEqual(PAGINGS, ("page_out", "page_in"))
        for each in (is_paging, page_atom, Paging):
            self.assertEqual(each.__module__, paging.__name__)
        for name in ("step", "answer", "state", "copy"):
            self.assertIn(name, vars(Paging))

    def test_forms(self):
        self.asks_for_forms(FORMS)

    def test_granules_are_all_different(self):
        self.asks_for_different_granules(FORMS)
        for call in (("page_out", 3, 3), ("page_in", 1, 5, 5, 5), ("page_in", 1, 5, 1, 0)):
            self.assertIs(is_paging(call), True)

    def test_what_is_no_paging(self):
        for value in NO_WORDS + (
            None, 0, "page_out", (), ("page_out",), ("",), (None, 1, 2), ("none", 1, 2), (TrickyText("page_out"), 1, 2),
            ([], 1, 2), challenge(0), ("data_destroy", 1, 2), ("seal", 1, 2), ATOM,
        ):
            self.assertIs(is_paging(value), False)

    def test_atoms(self):
        for monitor, n, page, words in (("m", 1, 0, SOURCE), ("a" * 24, 2 ** 31 - 1, 7, (None, (), seal(), "x"))):
            made = page_atom(monitor, n, page, words)
            self.assertIs(type(made), Atom)
            self.assertEqual((made.kind, made.term), ("page", (monitor, n, page, words)))

    def test_wrong_arguments(self):
        memory = Memory()
        before = contents(memory)
        for call in NO_WORDS + (None, ("page_out", 1, 16), ("page_in", 1, 1, 0, ATOM), ("data_destroy", 1, 2), ["page_out", 1, 2]):
            with self.assertRaises(NotValid):
                Paging(memory, 0, call, "m")
        for processor in NO_WORDS + (3, -1, None, "0"):
            with self.assertRaises(NotValid):
                Paging(memory, processor, ("page_out", 1, 2), "m")
        for monitor in NO_WORDS + (None, 0, "", "a" * 25, ("m",), challenge(0)):
            with self.assertRaises(NotValid):
                Paging(memory, 0, ("page_out", 1, 2), monitor)
        for processor, monitor in ((0, "m"), (2, "a" * 24)):
            self.assertIsNone(Paging(memory, processor, ("page_out", 1, 2), monitor).answer())
        self.assertEqual(contents(memory), before)


class PageOutTest(WaitingCase):
    CALL = ("page_out", D, PAGE)
    AHEAD = [("hold", D), ("read", D, 0), ("read", D, 1), ("read", ROOT, 0), ("read", LEAF, 1)]

    def make(self, memory, processor, call):
        return Paging(memory, processor, call, "m")

    def good(self, n):
        return ("ok", page_atom("m", n, PAGE, SOURCE))

    def behind(self, n):
        return [
            *[("read", DATA, i) for i in range(4)], *wipes(DATA), ("write", LEAF, 1, ("out", n)), ("read", D, 3),
            ("write", D, 3, (1, 2, 0)), ("leave", DATA, "free", None), ("leave", D, "desc", None),
        ]

    def test_work(self):
        self.waits(self.CALL, self.AHEAD, LEAF, 1, ("data", DATA), self.behind, "active")
        memory = realm()
        answer = finish(self.make(memory, 1, self.CALL))
        self.assertEqual(answer, ("ok", ATOM))
        self.assertEqual(map_of(memory, ROOT)[PAGE], ("out", 1))
        self.assertEqual((memory.status(DATA), memory.words(DATA)), (("free", None, None), (0, 0, 0, 0)))
        self.assertEqual(memory.words(D), ("active", ROOT, MEASURE, (1, 2, 0)))
        self.assertEqual(tables_fault(memory, ROOT), "")

    def test_what_is_asked(self):
        self.asks_for_realm(self.CALL, self.AHEAD, 1, ("active",), "active")
        self.asks_for_entry(self.CALL, self.AHEAD, 5, PAGE, ("data", "leaving"), "active", 1)
        for page in (8, 9, HIGH_PAGE, 15):
            self.fails(("page_out", D, page), self.AHEAD, 2)
        self.fails(("page_out", D, 7), self.AHEAD[:3] + [("read", ROOT, 1)], 4)
        # The page is asked behind the state, and ahead of the root.
        self.fails(("page_out", D, 8), self.AHEAD, 2, put(ROOT, 2, None))

    def test_the_last_page_of_the_half(self):
        memory = realm()
        do(memory, ("table_create", D, FREE, 1), ("data_fresh", D, OTHER_FREE, 7))
        since = len(memory.log())
        self.assertEqual(finish(self.make(memory, 0, ("page_out", D, 7))), ("ok", page_atom("m", 1, 7, (0, 0, 0, 0))))
        asked = [request for _, _, request, _ in memory.log()[since:]]
        self.assertEqual(asked[3:5], [("read", ROOT, 1), ("read", FREE, 3)])
        self.assertEqual(map_of(memory, ROOT)[7], ("out", 1))

    def test_busy(self):
        self.is_busy_where_it_holds(realm, self.CALL, self.AHEAD, 1)

    def test_other_monitors(self):
        memory = realm()
        self.assertEqual(finish(Paging(memory, 0, self.CALL, "there")), ("ok", page_atom("there", 1, PAGE, SOURCE)))

    def test_states_tell_no_words_of_the_page(self):
        self.tells_no_words(self.CALL, DATA, (5, "y", (), None), "active")

    def test_states_tell_the_entry_and_who_is_present(self):
        memory, other = realm(), realm()
        other.access(MONITOR, ("ticket",))
        one, two = self.make(memory, 0, self.CALL), self.make(other, 0, self.CALL)
        for _ in range(6):
            one.step(), two.step()
            self.assertEqual(one.state(), two.state())
        one.step(), two.step()
        self.assertNotEqual(one.state(), two.state())

    def stopped(self, call):
        """A memory in which the call has waited for a processor."""
        memory = realm()
        memory.access(("monitor", 1), ("present", D))
        made = self.make(memory, 0, call) if call[0] == "page_out" else Call(memory, 0, call)
        self.assertEqual(finish(made), ("busy",))
        self.assertEqual(map_of(memory, ROOT)[PAGE], ("leaving", DATA, 1))
        memory.access(("host", 1), ("drop",))
        return memory

    def test_data_destroy_ends_what_page_out_began(self):
        memory = self.stopped(self.CALL)
        do(memory, ("data_destroy", D, PAGE))
        self.assertEqual(map_of(memory, ROOT)[PAGE], "destroyed")
        self.assertEqual(memory.words(DATA), (0, 0, 0, 0))

    def test_page_out_ends_what_data_destroy_began(self):
        memory = self.stopped(("data_destroy", D, PAGE))
        self.assertEqual(finish(self.make(memory, 0, self.CALL)), ("ok", ATOM))
        self.assertEqual(map_of(memory, ROOT)[PAGE], ("out", 1))


class PageInTest(RealmCase):
    CALL = ("page_in", D, FREE, PAGE, ATOM)
    DONE = [
        ("hold", D), ("hold", FREE), ("read", D, 0), ("read", D, 1), ("read", ROOT, 0), ("read", LEAF, 1),
        *[("write", FREE, i, word) for i, word in enumerate(SOURCE)], ("write", LEAF, 1, ("data", FREE)), ("read", D, 3),
        ("write", D, 3, (1, 2, 1)), ("leave", FREE, "data", D), ("leave", D, "desc", None),
    ]

    def make(self, memory, processor, call):
        return Paging(memory, processor, call, "m")

    def start(self, state):
        """A memory in which the page is out, with the number 1."""
        memory = realm()
        if finish(Paging(memory, 0, ("page_out", D, PAGE), "m")) != ("ok", ATOM):
            raise AssertionError
        write(memory, D, state)
        return memory

    def test_work(self):
        memory = self.does(self.CALL, self.DONE, processor=2)
        self.assertEqual((memory.status(FREE), memory.words(FREE)), (("data", D, None), SOURCE))
        self.assertEqual(map_of(memory, ROOT)[PAGE], ("data", FREE))
        self.assertEqual(memory.words(D), ("active", ROOT, MEASURE, (1, 2, 1)))
        self.assertEqual(tables_fault(memory, ROOT), "")
        # The atom is good for this once.
        self.assertEqual(finish(self.make(memory, 0, ("page_in", D, DATA, PAGE, ATOM))), ("no",))

    def test_what_is_asked(self):
        self.asks_for_realm(self.CALL, self.DONE, 2, ("active",), "active")
        self.asks_for_state(self.CALL, self.DONE, 3, FREE, "free", "active")
        self.asks_for_entry(self.CALL, self.DONE, 6, PAGE, ("out",), "active", 2)
        for page in (8, 9, 15):
            atom = page_atom("m", 1, page, SOURCE)
            self.fails(("page_in", D, FREE, page, atom), self.DONE, 3, put(HIGH_LEAF, page % 4, ("out", 1)), held=2)
        self.fails(("page_in", D, FREE, 8, ATOM), self.DONE, 3, put(ROOT, 2, None), held=2)
        done = self.DONE[:4] + [("read", ROOT, 1)]
        self.fails(("page_in", D, FREE, 7, page_atom("m", 1, 7, SOURCE)), done, 5, held=2)

    def test_the_atom(self):
        for atom in (
            page_atom("m", 2, PAGE, SOURCE), page_atom("m", 0, PAGE, SOURCE), page_atom("m", 1, 2, SOURCE),
            page_atom("m", 1, 0, SOURCE), page_atom("n", 1, PAGE, SOURCE), page_atom("", 1, PAGE, SOURCE),
            page_atom("m", 1, PAGE, None), seal(1, PAGE, SOURCE), seal(1, PAGE, None), token(ATOM), token(1), ticket(),
            challenge(1), challenge(1, "m"), (ATOM,), ATOM.term, ("page",) + ATOM.term, SOURCE, None, 0, "page", (), ("out", 1),
        ):
            self.fails(("page_in", D, FREE, PAGE, atom), self.DONE, 6, held=2)
        # Whatever words the monitor has hidden, they come back.
        words = (None, (None, ()), seal(), challenge(7))
        atom = page_atom("m", 1, PAGE, words)
        memory = self.start("active")
        self.assertEqual(finish(self.make(memory, 0, ("page_in", D, FREE, PAGE, atom))), ("ok",))
        self.assertEqual(memory.words(FREE), words)

    def test_an_elder_atom(self):
        memory = self.start("active")
        do_in = self.make(memory, 0, self.CALL)
        self.assertEqual(finish(do_in), ("ok",))
        write(memory, FREE, "newer")
        answer = finish(self.make(memory, 0, ("page_out", D, PAGE)))
        newer = page_atom("m", 2, PAGE, ("newer",) + SOURCE[1:])
        self.assertEqual(answer, ("ok", newer))
        for number in (1, 3):
            elder = page_atom("m", number, PAGE, SOURCE)
            self.assertEqual(finish(self.make(memory, 0, ("page_in", D, FREE, PAGE, elder))), ("no",))
        self.assertEqual(finish(self.make(memory, 0, ("page_in", D, FREE, PAGE, newer))), ("ok",))
        self.assertEqual(memory.words(FREE), ("newer",) + SOURCE[1:])

    def test_busy(self):
        self.is_busy_where_it_holds(lambda: self.start("active"), self.CALL, self.DONE, 2)

    def test_states_tell_atoms_stripped(self):
        memory, other = self.start("active"), self.start("active")
        one = self.make(memory, 0, self.CALL)
        two = self.make(other, 0, ("page_in", D, FREE, PAGE, page_atom("m", 1, PAGE, (5, "y", (), None))))
        self.assertEqual(one.state(), two.state())
        while one.answer() is None:
            self.assertEqual(one.step(), two.step())
            self.assertEqual(one.state(), two.state())
        three = self.make(other, 0, ("page_in", D, FREE, PAGE, page_atom("m", 2, PAGE, SOURCE)))
        self.assertNotEqual(three.state(), self.make(memory, 0, self.CALL).state())

    def test_a_page_that_is_out(self):
        memory = self.start("active")
        # It is neither fresh nor destroyed, and a realm that dies loses it.
        for call in (("data_fresh", D, FREE, PAGE), ("data_destroy", D, PAGE), ("table_destroy", D, 0), ("share", D, PAGE, SHARED)):
            self.assertEqual(finish(Call(memory, 0, call)), ("no",))
        do(memory, ("kill", D))
        self.assertEqual(finish(self.make(memory, 0, self.CALL)), ("no",))
        do(memory, ("table_destroy", D, 0))
        self.assertEqual(memory.words(D)[3], (1, 1, 0))
