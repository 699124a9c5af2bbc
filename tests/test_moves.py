"""Points [36] to [38], and [39] and [40] for one call."""

from hermitcell import moves
from hermitcell.calls import Call
from hermitcell.errors import NotValid
from hermitcell.memory import GRANULES, Memory
from hermitcell.moves import Move
from hermitcell.tables import map_of, tables_fault
from hermitcell.words import Atom
from tests.helpers import (
    CPU, D, DATA, FREE, HIGH_LEAF, HIGH_PAGE, LEAF, MEASURE, MONITOR, MOVING, NO_WORDS, OTHER_FREE, PAGE, PROGRAM, REGISTERS,
    ROOT, SHARED, SOURCE, STATUSES, RealmCase, challenge, contents, do, finish, leave, put, realm, seal, status, ticket, token,
    write,
)

CPU_WORDS = (0, REGISTERS, None, PROGRAM)
FROZEN, GONE = ("frozen", 1), ("gone", 1, "there")
SEEN = [("seen", 0), ("seen", 1), ("seen", 2)]
LEAVE = ("leave", D, "desc", None)
# A ticket for the monitor "m", and places of its virtual processors.
PLACES = (14, 30)
PAGES = (None, "data", "destroyed", None, None, None, "data", None)
TICKET = ticket(PAGES, MEASURE, PLACES, "x", 4, "m")


def sealed(place, words=SOURCE, source="x", number=4):
    return seal(number, place, words, source)


def reads(g):
    return [("read", g, i) for i in range(4)]


class MoveCase(RealmCase):
    def make(self, memory, processor, call):
        return Move(memory, processor, call, "m")

    def is_present(self, q, d=D):
        return lambda memory: memory.access(("monitor", q), ("present", d))


class MoveTest(MoveCase):
    def test_the_class_is_defined_in_its_file(self):
        self.assertEqual(Move.__module__, moves.__name__)
        for name in ("step", "answer", "state", "copy"):
            self.assertIn(name, vars(Move))

    def test_wrong_arguments(self):
        memory = Memory()
        for call in NO_WORDS + (
            None, (), ("freeze",), ("freeze", 24), ["freeze", 1], ("come", 1, 1, TICKET), ("seal", 1, 16), ("give", 1, 2),
            ("kill", 1), ("enter", 1, 0), ("page_out", 1, 2),
        ):
            with self.assertRaises(NotValid):
                Move(memory, 0, call, "m")
        for processor in NO_WORDS + (3, -1, None, "0", (0,)):
            with self.assertRaises(NotValid):
                Move(memory, processor, ("freeze", 1), "m")
        for monitor in (None, 0, True, b"m", ["m"], ("m",), {}, challenge(0), object(), str):
            with self.assertRaises(NotValid):
                Move(memory, 0, ("freeze", 1), monitor)
        for monitor in ("", "m", "a" * 24):
            self.assertIsNone(Move(memory, 2, ("freeze", 1), monitor).answer())
        self.assertEqual(contents(memory), contents(Memory()))

    def test_states_tell_calls_processors_and_monitors(self):
        memory = Memory()
        states = [
            Move(memory, p, call, monitor).state()
            for p in range(3) for monitor in ("m", "n") for call in (("freeze", 5), ("freeze", 6), ("thaw", 5), ("give", 5, "x"))
        ]
        for at, state in enumerate(states):
            self.assertNotIn(state, states[:at])


class FreezeTest(MoveCase):
    CALL = ("freeze", D)
    DONE = [
        ("hold", D), ("read", D, 0), ("ticket",), ("write", D, 0, ("freezing", 1)), *SEEN, ("write", D, 0, FROZEN), LEAVE,
    ]
    AGAIN = DONE[:2] + DONE[4:]

    def test_work(self):
        self.assertEqual(len(self.DONE), 9)
        memory = self.does(self.CALL, self.DONE, processor=1)
        self.assertEqual(memory.words(D), (FROZEN, ROOT, MEASURE, (1, 2, 1)))
        self.assertEqual(memory.tickets(), 1)

    def test_a_freeze_that_is_made_again(self):
        memory = self.does(self.CALL, self.AGAIN, ("freezing", 1))
        self.assertEqual(memory.words(D)[0], FROZEN)
        self.assertEqual(memory.tickets(), 0)
        memory = self.start(("freezing", 77))
        self.assertEqual(finish(self.make(memory, 0, self.CALL)), ("ok",))
        self.assertEqual(memory.words(D)[0], ("frozen", 77))

    def test_each_processor_that_is_present(self):
        for q in range(3):
            memory = realm()
            self.is_present(q)(memory)
            busy = SEEN[:q + 1] + [LEAVE]
            self.makes(memory, self.CALL, self.DONE[:4] + busy, ("busy",), (q + 1) % 3)
            self.assertEqual((memory.words(D)[0], memory.status(D)), (("freezing", 1), ("desc", None, None)))
            self.makes(memory, self.CALL, self.DONE[:2] + busy, ("busy",), q)
            # No drop helps: the processor has to leave.
            memory.access(("host", q), ("drop",))
            self.makes(memory, self.CALL, self.DONE[:2] + busy, ("busy",))
            self.is_present(q, None)(memory)
            self.makes(memory, self.CALL, self.AGAIN, ("ok",))
            self.assertEqual((memory.words(D)[0], memory.tickets()), (FROZEN, 1))

    def test_the_first_that_is_present_ends_it(self):
        self.does_busy([self.is_present(1), self.is_present(2)], SEEN[:2])
        self.does_busy([self.is_present(q) for q in range(3)], SEEN[:1])

    def does_busy(self, changes, seen):
        memory = realm()
        for change in changes:
            change(memory)
        self.makes(memory, self.CALL, self.DONE[:4] + seen + [LEAVE], ("busy",))

    def test_processors_elsewhere_are_no_matter(self):
        for other in (ROOT, FREE, DATA):
            self.does(self.CALL, self.DONE, changes=[self.is_present(q, other) for q in range(3)])

    def test_what_is_asked(self):
        self.asks_for_realm(self.CALL, self.DONE, 1, ("active", ("freezing", 1)), "active")
        self.is_busy_where_it_holds(realm, self.CALL, self.DONE, 1)


class ThawTest(MoveCase):
    CALL = ("thaw", D)
    DONE = [("hold", D), ("read", D, 0), ("write", D, 0, "active"), LEAVE]

    def test_work(self):
        for state in (("freezing", 1), FROZEN):
            memory = self.does(self.CALL, self.DONE, state, processor=2)
            self.assertEqual(memory.words(D), ("active", ROOT, MEASURE, (1, 2, 1)))

    def test_what_is_asked(self):
        self.asks_for_realm(self.CALL, self.DONE, 1, (("freezing", 1), FROZEN), FROZEN)
        self.is_busy_where_it_holds(realm, self.CALL, self.DONE, 1)

    def test_thawed_and_frozen_again(self):
        memory = realm()
        for n in (1, 2, 3):
            self.assertEqual(finish(self.make(memory, 0, ("freeze", D))), ("ok",))
            self.assertEqual(memory.words(D)[0], ("frozen", n))
            self.assertEqual(finish(self.make(memory, 0, ("seal", D, PAGE))), ("ok", sealed(PAGE, SOURCE, "m", n)))
            self.assertEqual(finish(self.make(memory, 0, self.CALL)), ("ok",))


class SealTest(MoveCase):
    CALL = ("seal", D, PAGE)
    DONE = [("hold", D), ("read", D, 0), ("read", D, 1), ("read", ROOT, 0), ("read", LEAF, 1), *reads(DATA), LEAVE]

    def good(self, n):
        return ("ok", sealed(PAGE, SOURCE, "m", n))

    def test_work(self):
        for state in (FROZEN, GONE):
            memory = self.does(self.CALL, self.DONE, state, processor=2)
            self.assertEqual(memory.words(D)[0], state)
            # The same call answers the same atom, as often as it is made.
            self.makes(memory, self.CALL, self.DONE, self.good(1))
        self.does(self.CALL, self.DONE, ("frozen", 9), n=9)
        self.assertEqual(finish(Move(self.start(FROZEN), 0, self.CALL, "here")), ("ok", sealed(PAGE, SOURCE, "here", 1)))

    def test_what_is_asked(self):
        self.asks_for_realm(self.CALL, self.DONE, 1, (FROZEN, GONE), FROZEN)
        self.asks_for_entry(self.CALL, self.DONE, 5, PAGE, ("data",), FROZEN, 1)
        for page in (8, HIGH_PAGE, 15):
            self.fails(("seal", D, page), self.DONE, 2, put(HIGH_LEAF, page % 4, ("data", DATA)), state=FROZEN)
        self.fails(("seal", D, 7), self.DONE[:3] + [("read", ROOT, 1)], 4, state=FROZEN)
        self.is_busy_where_it_holds(realm, self.CALL, self.DONE, 1)

    def test_pages_at_the_ends_of_the_half(self):
        for page, leaf, word in ((0, LEAF, ("read", ROOT, 0)), (7, FREE, ("read", ROOT, 1))):
            memory = realm()
            do(memory, ("table_create", D, FREE, 1), ("data_fresh", D, OTHER_FREE, page))
            write(memory, D, FROZEN)
            done = self.DONE[:3] + [word, ("read", leaf, page % 4), *reads(OTHER_FREE), LEAVE]
            self.makes(memory, ("seal", D, page), done, ("ok", sealed(page, (0, 0, 0, 0), "m", 1)))

    def test_states_tell_no_words_of_the_page(self):
        self.tells_no_words(self.CALL, DATA, (5, "y", (), None), FROZEN)

    def test_states_tell_the_state_of_the_realm(self):
        one, two = self.make(realm(FROZEN), 0, self.CALL), self.make(realm(GONE), 0, self.CALL)
        one.step(), two.step()
        self.assertEqual(one.state(), two.state())
        one.step(), two.step()
        self.assertNotEqual(one.state(), two.state())


class SealCpuTest(SealTest):
    CALL = ("seal_cpu", D, CPU)
    DONE = [("hold", D), ("read", D, 0), ("look", CPU), *reads(CPU), LEAVE]

    def good(self, n):
        return ("ok", sealed(8 + CPU, CPU_WORDS, "m", n))

    def test_work(self):
        for state in (FROZEN, GONE):
            self.does(self.CALL, self.DONE, state)
            memory = self.does(self.CALL, self.DONE, state, [status(CPU, "running", D)], 1)
            self.assertEqual(memory.status(CPU), ("running", D, None))
            self.makes(memory, self.CALL, self.DONE, self.good(1))

    def test_a_granule_that_somebody_holds(self):
        self.does(self.CALL, self.DONE, FROZEN, [lambda memory: memory.access(("monitor", 2), ("hold", CPU))])

    def test_what_is_asked(self):
        self.asks_for_realm(self.CALL, self.DONE, 1, (FROZEN, GONE), FROZEN)
        for other, owner in STATUSES.items():
            if other not in ("cpu", "running"):
                self.fails(self.CALL, self.DONE, 3, status(CPU, other, owner), state=FROZEN)
        for other in ("cpu", "running"):
            for owner in (ROOT, FREE, None):
                self.fails(self.CALL, self.DONE, 3, status(CPU, other, owner), state=FROZEN)
        self.is_busy_where_it_holds(realm, self.CALL, self.DONE, 1)

    def test_pages_at_the_ends_of_the_half(self):
        # The places of virtual processors are 8 plus any granule.
        for c in (0, 23):
            memory = realm(FROZEN)
            leave(memory, c, "cpu", D)
            self.assertEqual(finish(self.make(memory, 0, ("seal_cpu", D, c))), ("ok", sealed(8 + c, (0, 0, 0, 0), "m", 1)))

    def test_states_tell_no_words_of_the_page(self):
        self.tells_no_words(self.CALL, CPU, (1, (0, 0, 0, 0), 2, PROGRAM), FROZEN)


class GiveTest(MoveCase):
    CALL = ("give", D, "there")
    DONE = [("hold", D), ("read", D, 0), ("write", D, 0, GONE), LEAVE]

    def test_work(self):
        memory = self.does(self.CALL, self.DONE, FROZEN, processor=1)
        self.assertEqual(memory.words(D), (GONE, ROOT, MEASURE, (1, 2, 1)))
        memory = self.start(("frozen", 8))
        self.assertEqual(finish(self.make(memory, 0, ("give", D, "M"))), ("ok",))
        self.assertEqual(memory.words(D)[0], ("gone", 8, "M"))

    def test_what_is_asked(self):
        self.asks_for_realm(self.CALL, self.DONE, 1, (FROZEN,), FROZEN)
        self.fails(("give", D, "m"), self.DONE, 2, state=FROZEN)
        self.is_busy_where_it_holds(realm, self.CALL, self.DONE, 1)

    def test_behind_the_death(self):
        memory = realm(GONE)
        for call in (("give", D, "far"), ("give", D, "there"), ("thaw", D), ("freeze", D)):
            self.assertEqual(finish(self.make(memory, 0, call)), ("no",))
        for call in (("activate", D), ("data_fresh", D, FREE, 0), ("data_destroy", D, PAGE), ("table_create", D, FREE, 1)):
            self.assertEqual(finish(Call(memory, 0, call)), ("no",))
        self.assertEqual(memory.words(D)[0], GONE)


class TicketTest(MoveCase):
    CALL = ("ticket", D)
    AHEAD = [("hold", D), ("read", D, 0), ("read", D, 1)]
    BEHIND = [*[("look", g) for g in range(GRANULES)], ("read", D, 2), LEAVE]
    DONE = AHEAD + [("read", ROOT, 0), *reads(LEAF), ("read", ROOT, 1)] + BEHIND

    def good(self, n):
        pages = (None, "data") + (None,) * 6
        return ("ok", ticket(pages, MEASURE, (8 + CPU,), "m", n, "there"))

    def test_work(self):
        memory = self.does(self.CALL, self.DONE, GONE, processor=2)
        self.assertEqual(memory.words(D)[0], GONE)
        self.makes(memory, self.CALL, self.DONE, self.good(1))

    def test_what_is_asked(self):
        self.asks_for_realm(self.CALL, self.DONE, 1, (GONE,), GONE)
        self.is_busy_where_it_holds(realm, self.CALL, self.DONE, 1)

    def told(self, memory, done):
        """The ticket; the call makes these accesses."""
        since = len(memory.log())
        answer = finish(self.make(memory, 0, self.CALL))
        self.assertEqual([request for _, _, request, _ in memory.log()[since:]], done)
        self.assertEqual(answer[0], "ok")
        return answer[1]

    def test_leaf_tables_that_are_there_and_that_are_not(self):
        for low in (None, ("leaving", LEAF, None), ("leaving", LEAF, 2), ("table", LEAF)):
            for high in (None, ("leaving", FREE, None), ("leaving", FREE, 2), ("table", FREE)):
                memory = realm(GONE)
                write(memory, FREE, "destroyed", None, None, ("data", DATA))
                write(memory, ROOT, low, high, ("table", HIGH_LEAF), None)
                done = self.AHEAD + [("read", ROOT, 0)] + (reads(LEAF) if low == ("table", LEAF) else [])
                done += [("read", ROOT, 1)] + (reads(FREE) if high == ("table", FREE) else [])
                found = self.told(memory, done + self.BEHIND)
                pages = (None, "data", None, None) if low == ("table", LEAF) else (None,) * 4
                pages += ("destroyed", None, None, "data") if high == ("table", FREE) else (None,) * 4
                self.assertEqual(found, ticket(pages, MEASURE, (8 + CPU,), "m", 1, "there"))

    def test_entries_of_each_kind(self):
        for entry, told in (
            (None, None), (("data", DATA), "data"), (("data", 23), "data"), ("destroyed", "destroyed"), (("out", 1), "destroyed"),
            (("leaving", DATA, None), "destroyed"), (("leaving", DATA, 5), "destroyed"), (("shared", SHARED), None),
        ):
            for i in range(4):
                memory = realm(GONE)
                write(memory, LEAF, None, None, None, None)
                put(LEAF, i, entry)(memory)
                pages = [None] * 8
                pages[i] = told
                self.assertEqual(self.told(memory, self.DONE), ticket(tuple(pages), MEASURE, (8 + CPU,), "m", 1, "there"))

    def test_virtual_processors(self):
        memory = realm(GONE)
        for g, state, owner in (
            (23, "cpu", D), (0, "running", D), (9, "cpu", ROOT), (10, "data", D), (11, "table", D), (12, "running", 3),
        ):
            leave(memory, g, state, owner)
        memory.access(("monitor", 1), ("hold", 23))
        found = self.told(memory, self.DONE)
        self.assertEqual(found.term[5], (8, 8 + CPU, 31))
        leave(memory, 0, "free"), leave(memory, 23, "free"), leave(memory, CPU, "free")
        self.assertEqual(self.told(memory, self.DONE).term[5], ())

    def test_the_target_and_the_number_are_those_of_the_state(self):
        memory = realm(("gone", 12, "far"))
        self.assertEqual(self.told(memory, self.DONE).term[:3], ("m", 12, "far"))
        self.assertIs(type(self.told(memory, self.DONE)), Atom)


class ComeTest(MoveCase):
    CALL = ("come", FREE, OTHER_FREE, TICKET)
    WORDS = (("coming", TICKET, ()), OTHER_FREE, MEASURE, (0, 0, 0))
    DONE = [
        ("hold", FREE), ("hold", OTHER_FREE), ("once", ("x", 4)), *[("write", FREE, i, word) for i, word in enumerate(WORDS)],
        *[("write", OTHER_FREE, i, None) for i in range(4)], ("leave", OTHER_FREE, "table", FREE), ("leave", FREE, "desc", None),
    ]

    def test_work(self):
        memory = self.does(self.CALL, self.DONE, processor=1)
        self.assertEqual((memory.words(FREE), memory.words(OTHER_FREE)), (self.WORDS, (None,) * 4))
        self.assertEqual((memory.status(FREE), memory.status(OTHER_FREE)), (("desc", None, None), ("table", FREE, None)))
        self.assertEqual(memory.taken(), (("x", 4),))
        self.assertEqual(tables_fault(memory, OTHER_FREE), "")

    def test_what_is_asked(self):
        self.asks_for_state(self.CALL, self.DONE, 2, FREE, "free", "active")
        self.asks_for_state(self.CALL, self.DONE, 2, OTHER_FREE, "free", "active")
        self.is_busy_where_it_holds(realm, self.CALL, self.DONE, 2)

    def test_the_ticket(self):
        for word in (
            ticket(PAGES, MEASURE, PLACES, "x", 4, "n"), ticket(PAGES, MEASURE, PLACES, "x", 4, ""),
            ticket(source="m", target="n"),
            None, 0, "ticket", (), TICKET.term, (TICKET,), sealed(1), token(TICKET, measure=()), token(1), challenge(0),
            seal(kind="page"),
        ):
            self.fails(("come", FREE, OTHER_FREE, word), self.DONE, 2, held=2)

    def test_a_ticket_that_was_taken(self):
        taken = lambda memory: memory.access(MONITOR, ("once", ("x", 4)))
        self.fails(self.CALL, self.DONE, 3, taken, held=2)
        # What counts is the source and the number alone.
        self.fails(("come", FREE, OTHER_FREE, ticket(source="x", number=4, target="m")), self.DONE, 3, taken, held=2)
        for source, number in (("x", 5), ("y", 4), ("", 4), ("m", 4)):
            memory = realm()
            taken(memory)
            other = ticket(source=source, number=number, target="m")
            self.assertEqual(finish(self.make(memory, 0, ("come", FREE, OTHER_FREE, other))), ("ok",))
            self.assertEqual(memory.taken(), (("x", 4), (source, number)))

    def test_a_second_time(self):
        memory = realm()
        do(memory, ("delegate", 9), ("delegate", 10))
        self.assertEqual(finish(self.make(memory, 0, self.CALL)), ("ok",))
        self.assertEqual(finish(self.make(memory, 0, ("come", 9, 10, TICKET))), ("no",))
        # Not even when the realm is over.
        do(memory, ("kill", FREE), ("destroy", FREE))
        self.assertEqual(finish(self.make(memory, 0, self.CALL)), ("no",))


class ComingCase(MoveCase):
    """Calls for a realm that comes, with a leaf table for the pages 0 to 3."""

    def start(self, state, cpus=()):
        memory = Memory()
        do(memory, *[("delegate", g) for g in range(1, 9)])
        if finish(self.make(memory, 0, ("come", D, ROOT, TICKET))) != ("ok",):
            raise AssertionError
        do(memory, ("table_create", D, LEAF, 0))
        write(memory, D, state)
        return memory

    def coming(self, *cpus):
        return ("coming", TICKET, cpus)

    def asks_for_coming(self, call, done, held):
        self.asks_for_realm(call, done, held, (self.coming(),), self.coming())
        for state in MOVING[:-1] + (
            ("coming", TICKET), ("coming", TICKET.term, ()), ("coming", sealed(1), ()), ("coming", TICKET, (), 0),
            ("coming", TICKET, None), ("Coming", TICKET, ()),
        ):
            self.fails(call, done, held + 1, put(D, 0, state), state=self.coming(), held=held)

    def asks_for_seal(self, call, done, place):
        """Asks for each part of the seal, which is the last part of the call."""
        for word in (
            sealed(place, SOURCE, "x", 5), sealed(place, SOURCE, "x", 3), sealed(place, SOURCE, "m", 4),
            sealed(place, SOURCE, "", 4),
            sealed(place, None), seal(4, place, SOURCE, "x", "page"), seal(4, place, None, "x", "page"), sealed(place + 1),
            sealed(place - 1), sealed(place + 8), sealed(-1), sealed(33),
            None, 0, "seal", (), sealed(place).term, (sealed(place),), TICKET, token(sealed(place)), challenge(4, "x"),
        ):
            self.fails(call[:-1] + (word,), done, 3, state=self.coming(), held=2)


class PlaceTest(ComingCase):
    CALL = ("place", D, FREE, PAGE, sealed(PAGE))
    DONE = [
        ("hold", D), ("hold", FREE), ("read", D, 0), ("read", D, 1), ("read", ROOT, 0), ("read", LEAF, 1),
        *[("write", FREE, i, word) for i, word in enumerate(SOURCE)], ("write", LEAF, 1, ("data", FREE)), ("read", D, 3),
        ("write", D, 3, (0, 1, 1)), ("leave", FREE, "data", D), LEAVE,
    ]

    def test_work(self):
        memory = self.does(self.CALL, self.DONE, self.coming(), processor=2)
        self.assertEqual((memory.status(FREE), memory.words(FREE)), (("data", D, None), SOURCE))
        self.assertEqual(memory.words(D), (self.coming(), ROOT, MEASURE, (0, 1, 1)))
        self.assertEqual(tables_fault(memory, ROOT), "")
        self.does(self.CALL, self.DONE, self.coming(14))

    def test_what_is_asked(self):
        self.asks_for_coming(self.CALL, self.DONE, 2)
        self.asks_for_state(self.CALL, self.DONE, 3, FREE, "free", self.coming())
        self.asks_for_entry(self.CALL, self.DONE, 6, PAGE, (None,), self.coming(), 2)
        self.asks_for_seal(self.CALL, self.DONE, PAGE)
        self.is_busy_where_it_holds(lambda: self.start(self.coming()), self.CALL, self.DONE, 2)

    def test_the_page(self):
        for page in (0, 2, 3, 4, 5, 7, 8, 9, 15):
            self.fails(("place", D, FREE, page, sealed(page)), self.DONE, 3, state=self.coming(), held=2)
        # Page 6 has no leaf table yet, and is placed as soon as it has one.
        done = self.DONE[:4] + [("read", ROOT, 1)]
        self.fails(("place", D, FREE, 6, sealed(6)), done, 5, state=self.coming(), held=2)
        memory = self.start(self.coming())
        do(memory, ("table_create", D, OTHER_FREE, 1))
        self.assertEqual(finish(self.make(memory, 0, ("place", D, FREE, 6, sealed(6)))), ("ok",))
        self.assertEqual(map_of(memory, ROOT)[6], ("data", FREE))

    def test_a_second_time(self):
        memory = self.does(self.CALL, self.DONE, self.coming())
        self.assertEqual(finish(self.make(memory, 0, ("place", D, OTHER_FREE, PAGE, sealed(PAGE)))), ("no",))


class StrikeTest(ComingCase):
    CALL = ("strike", D, 2)
    DONE = [
        ("hold", D), ("read", D, 0), ("read", D, 1), ("read", ROOT, 0), ("read", LEAF, 2), ("write", LEAF, 2, "destroyed"), LEAVE,
    ]

    def test_work(self):
        memory = self.does(self.CALL, self.DONE, self.coming(), processor=1)
        self.assertEqual(map_of(memory, ROOT)[:4], [None, None, "destroyed", None])
        self.assertEqual(memory.words(D), (self.coming(), ROOT, MEASURE, (0, 1, 0)))
        self.assertEqual(finish(self.make(memory, 0, self.CALL)), ("no",))

    def test_what_is_asked(self):
        self.asks_for_coming(self.CALL, self.DONE, 1)
        self.asks_for_entry(self.CALL, self.DONE, 5, 2, (None,), self.coming(), 1)
        for page in (0, 1, 3, 4, 6, 7, 8, 10, 15):
            self.fails(("strike", D, page), self.DONE, 2, state=self.coming())
        self.is_busy_where_it_holds(lambda: self.start(self.coming()), self.CALL, self.DONE, 1)


class PlaceCpuTest(ComingCase):
    CALL = ("place_cpu", D, FREE, sealed(14, CPU_WORDS))

    def done(self, *cpus):
        return [
            ("hold", D), ("hold", FREE), ("read", D, 0), *[("write", FREE, i, word) for i, word in enumerate(CPU_WORDS)],
            ("write", D, 0, self.coming(*cpus)), ("read", D, 3), ("write", D, 3, (1, 1, 0)), ("leave", FREE, "cpu", D), LEAVE,
        ]

    def test_work(self):
        memory = self.does(self.CALL, self.done(14), self.coming(), processor=2)
        self.assertEqual((memory.status(FREE), memory.words(FREE)), (("cpu", D, None), CPU_WORDS))
        self.assertEqual(memory.words(D), (self.coming(14), ROOT, MEASURE, (1, 1, 0)))
        # Places come in any order, each behind the others.
        self.does(self.CALL, self.done(30, 14), self.coming(30))
        other = ("place_cpu", D, FREE, sealed(30, CPU_WORDS))
        self.does(other, self.done(30), self.coming())
        self.does(other, self.done(14, 30), self.coming(14))

    def test_what_is_asked(self):
        done = self.done(14)
        self.asks_for_coming(self.CALL, done, 2)
        self.asks_for_state(self.CALL, done, 3, FREE, "free", self.coming())
        self.asks_for_seal(self.CALL, done, 14)
        self.is_busy_where_it_holds(lambda: self.start(self.coming()), self.CALL, done, 2)

    def test_a_place_that_is_there_already(self):
        for cpus in ((14,), (14, 30), (30, 14)):
            self.fails(self.CALL, self.done(14), 3, state=self.coming(*cpus), held=2)


class BeginTest(ComingCase):
    CALL = ("begin", D)
    AHEAD = [("hold", D), ("read", D, 0)]
    READ = [("read", D, 1), ("read", ROOT, 0), *reads(LEAF), ("read", ROOT, 1), *reads(HIGH_LEAF)]
    DONE = AHEAD + READ + [("write", D, 0, "active"), LEAVE]

    def start(self, state):
        memory = super().start(state)
        do(memory, ("table_create", D, HIGH_LEAF, 1))
        write(memory, LEAF, None, ("data", 5), "destroyed", None)
        write(memory, HIGH_LEAF, None, None, ("data", 6), None)
        return memory

    def test_work(self):
        for cpus in (PLACES, PLACES[::-1]):
            memory = self.does(self.CALL, self.DONE, self.coming(*cpus), processor=1)
            self.assertEqual(memory.words(D), ("active", ROOT, MEASURE, (0, 2, 0)))

    def test_the_realm(self):
        for other, owner in STATUSES.items():
            if other != "desc":
                self.fails(self.CALL, self.AHEAD, 1, status(D, other, owner), state=self.coming(*PLACES))
        for state in (
            "new", "active", "dying", ("freezing", 1), FROZEN, GONE, ("coming", TICKET), ("coming", TICKET.term, PLACES), 0,
        ):
            self.fails(self.CALL, self.AHEAD, 2, put(D, 0, state), state=self.coming(*PLACES))
        self.is_busy_where_it_holds(lambda: self.start(self.coming(*PLACES)), self.CALL, self.DONE, 1)

    def test_virtual_processors_that_are_missing(self):
        for cpus in ((), (14,), (30,)):
            self.fails(self.CALL, self.AHEAD, 2, state=self.coming(*cpus))

    def test_each_page(self):
        done = self.AHEAD + self.READ
        wrong = {
            None: (("data", 7), "destroyed", ("leaving", 7, 1), ("out", 1)),
            "data": (None, "destroyed", ("leaving", 7, None), ("out", 1)), "destroyed": (None, ("data", 7)),
        }
        for page, told in enumerate(PAGES):
            leaf = LEAF if page < 4 else HIGH_LEAF
            for entry in wrong[told]:
                self.fails(self.CALL, done, len(done), put(leaf, page % 4, entry), state=self.coming(*PLACES))

    def test_leaf_tables_that_are_not_there(self):
        done = self.AHEAD + [("read", D, 1), ("read", ROOT, 0), ("read", ROOT, 1), *reads(HIGH_LEAF)]
        for word in (None, ("leaving", LEAF, None), ("leaving", LEAF, 3)):
            self.fails(self.CALL, done, len(done), put(ROOT, 0, word), state=self.coming(*PLACES))
        done = self.AHEAD + self.READ[:7]
        self.fails(self.CALL, done, len(done), put(ROOT, 1, None), state=self.coming(*PLACES))
        # Where the ticket tells of no page there, no table is needed.
        bare = ticket(target="m", source="x", number=4)
        memory = self.start(("coming", bare, ()))
        write(memory, ROOT, None, None)
        done = self.AHEAD + [("read", D, 1), ("read", ROOT, 0), ("read", ROOT, 1), ("write", D, 0, "active"), LEAVE]
        self.makes(memory, self.CALL, done, ("ok",))

    def test_shared_pages_are_no_matter(self):
        self.does(self.CALL, self.DONE, self.coming(*PLACES), [put(ROOT, 2, ("table", FREE)), put(FREE, 0, ("shared", SHARED))])
